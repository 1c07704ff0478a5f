/-
  Package fault: Whats of an error whose row is known.
-/
import Derived.Test.YtjajlfcmmgdfcaaDoorPlace
import Derived.RangeFuncBox
import Derived.Maps.AppendAt
import Derived.OwnWalk
import Derived.OrdersIn
namespace Go.Proofs.YtjajlfcmmgdfcaaDoor
open Go Go.RowKit

attribute [local go_sem] Oper.semAt_some

/-- append onto a row of the call's own, as one step of a region that draws its order, in whatever fence. -/
theorem stepIn_append {F : Fence} {n : Nat} {P : Program} {w : World} {ops : Array Oper} {o : Oper} {a : Act} {K : Act → World → Prop} {Q : Exit → Act → World → Prop} {E : Prop}
    (hg : o.guard = none) (s x : Operand) (t : TypeId) (hop : o.op = Op.call { callee := Callee.builtin Builtin.append, args := #[s, x], argTypes := #[t, t] })
    (base : Nat) (e : TypeId) (i : TypeInfo) (z : Value) (size bytes : Nat) (h1 : P.underlying t = some (.slice e)) (h2 : P.info? e = some i) (h3 : i.zero = some z) (h4 : i.size = size) (h5 : i.bytes = bytes) (h6 : z.cells.size = size) (h7 : 0 < size)
    (v : Value) (k : Nat) (xs : List Value) (hs : a.eval s = v) (hown : w.ownsRow base e size v k xs) (ad : Addr) (m c : Nat) (news : List Value) (hx : a.eval x = .slice (some ad) m c) (hn : news.length = m * size)
    (hc : ∀ j u, news[j]? = some u → w.cell? (ad.add j) = some u) (h1c : ∀ u ∈ news, u.oneCell' = true) (b1 : k + m ≤ maxLen) (b2 : (k + m) * bytes ≤ 140737488355328) (b3 : base ≤ w.heap.size)
    (hK : ∀ v' w', w'.ownsRow base e size v' (k + m) (xs ++ news) → w.grownBy w' v.ownBlock → K (a.put o.dst v') w') :
    if Region.wanted o (yielded ops a.tmps) = true then Oper.wpIn F n P o a w K Q else E := by
  have hw : Region.wanted o (yielded ops a.tmps) = true := by simp [Region.wanted, hg]
  rw [if_pos hw]
  obtain ⟨v', w', hrun, r1, r2, _⟩ := run_append_own (P := P) w base t o.type e i z size bytes h1 h2 h3 h4 h5 h6 h7 v k xs hown ad m c news hn hc h1c b1 b2 b3
  unfold Oper.wpIn
  refine ⟨?_, ?_⟩
  · simp [Oper.about, hop, resolve, Target.leads, Sem.run_pure]
  · rw [Oper.semAt_plain F _ _ (by rw [hop]; intro c hc'; cases hc')]
    simp [execOp, hop, resolve, invoke, builtin, hs, hx, hrun, Result.andThen]
    exact hK v' w' r1 r2

theorem fsOf_length (xs : List El) : (fsOf xs).length ≤ xs.length := by
  induction xs with
  | nil => simp [fsOf]
  | cons x r ih => cases x <;> simp [fsOf] <;> omega
def whats (l : List (Nat × Int × ByteArray)) : List Value := l.map fun x => .string x.2.2
theorem stringInfo : (Tryd.prog.info? 9).map (fun i => (i.zero, i.size, i.bytes)) = some (some (.string ByteArray.empty), 1, 16) := by kernel_rfl

def WhI (w : World) (pre : List (Nat × Int × ByteArray)) (W : World) : Prop :=
  ∃ v, W.heap[w.heap.size]? = some (.cells #[v] 32 (0, 0)) ∧ W.ownsRow (w.heap.size + 2) 9 1 v pre.length (whats pre) ∧ Below w.heap.size w W ∧ w.heap.size + 2 ≤ W.heap.size

theorem ownFrom_row {β : Type} {B base : Nat} {e : TypeId} {sz : Nat} {v : Value} {n : Nat} {xs : List Value} : OwnFrom B (fun (_ : β) W => W.ownsRow base e sz v n xs) := fun _ X Y row hs hg hr => by
  refine hs.kept hg ?_
  rcases hs.2 with ⟨rfl, _⟩ | ⟨g, cap, cur, rfl, _, hb, _⟩
  · exact .inl rfl
  · refine .inr (fun e => ?_)
    obtain ⟨_, o, ho, hc⟩ := hr g e.symm
    rw [hb] at ho
    cases ho
    simp [Obj.isCells] at hc

/-- What a round of Whats may turn: rows of texts. -/
def frS : Obj → Bool
  | .cells _ t _ => t == 9
  | _ => false
theorem frS_cells (o : Obj) (h : frS o = true) : o.isCells = true := by
  cases o <;> first | rfl | cases h

theorem owns_shape0 {w : World} {B : Nat} {e : TypeId} {sz : Nat} {v : Value} {n : Nat} {xs : List Value} (h : w.ownsRow B e sz v n xs) : v = .slice none 0 0 ∨ ∃ g cap, v = .slice (some ⟨g, 0, none⟩) n cap := by
  rcases h.2 with ⟨h, _⟩ | ⟨g, cap, _, h, _⟩
  · exact .inl h
  · exact .inr ⟨g, cap, h⟩

theorem wh_app {lo hi : Nat} {w W3 w1 : World} {j : Nat} {v v' s : Value} {xs ys : List Value}
    (hR : W3.heap[w.heap.size]? = some (.cells #[v] 32 (0, 0))) (hown : W3.ownsRow (w.heap.size + 2) 9 1 v j xs) (hB : Below w.heap.size w W3) (hsz : w.heap.size + 2 ≤ W3.heap.size) (hlo : lo ≤ w.heap.size)
    (hown1 : w1.ownsRow (w.heap.size + 2) 9 1 v' (j + 1) ys) (hgrow : ((W3.alloc (.cells #[s] 9)).drew).grownBy w1 v.ownBlock) :
    ∃ g' cap', v' = .slice (some ⟨g', 0, none⟩) (j + 1) cap' ∧ w.heap.size + 2 ≤ g' ∧ w1.cell? ⟨w.heap.size, 0, none⟩ = some v ∧ w1.frozen? ⟨w.heap.size, 0, none⟩ = false ∧ Keep lo hi frS W3 w1 ∧
      Hid (Below w.heap.size w w1 ∧ w.heap.size + 2 ≤ w1.heap.size ∧ w1.heap[w.heap.size]? = some (.cells #[v] 32 (0, 0))) := by
  have hgs := hgrow.size
  have hsd : (W3.alloc (.cells #[s] 9)).drew.heap.size = W3.heap.size + 1 := by show (W3.alloc _).heap.size = _; simp
  have hne : ∀ r, v.ownBlock = some r → w.heap.size + 2 ≤ r := fun r e => (hown.lt r e).1
  have hblk : ∀ k, k < W3.heap.size → (W3.alloc (.cells #[s] 9)).drew.heap[k]? = W3.heap[k]? := fun k hk => Below.heap_alloc W3 _ k hk
  have hR1' : w1.heap[w.heap.size]? = some (.cells #[v] 32 (0, 0)) := (hgrow.block _ (by omega) (fun e => by have := hne _ e.symm; omega)).trans ((hblk _ (by omega)).trans hR)
  have hB1 : Below w.heap.size w w1 := ((hB.alloc hB.size _).drew).grown hgrow (by omega) (fun r e => by have := hne r e; omega)
  obtain ⟨g', cap', rfl⟩ := ownsRow_succ hown1
  refine ⟨g', cap', rfl, (hown1.lt g' rfl).1, cell_of_one hR1', free_of_one hR1', ?_, hB1, by omega, hR1'⟩
  refine (Keep.of_below (A := W3) (((Below.refl _ W3).alloc (Nat.le_refl _) _).drew)).trans (Keep.grown hgrow (fun r e => ?_))
  have hr := hne r e
  refine ⟨by omega, .inr ?_⟩
  rcases hown.2 with ⟨rfl, _⟩ | ⟨g, cap, cur, rfl, _, hb, _⟩
  · cases e
  · cases e
    exact ⟨_, (hblk g (Array.getElem?_eq_some_iff.1 hb).1).trans hb, by simp [frS]⟩

set_option maxRecDepth 100000 in
set_option maxHeartbeats 8000000 in
theorem whats_chain {n₀ : Nat} {v : Value} {xs : List El} (w : World) (hlen : xs.length < 1048576) (hn₀ : n₀ ≤ w.heap.size) (hL : Chain w n₀ v xs) :
    Calls Tryd.prog 18 #[v] w fun e w' => ∃ u, e = .returned u ∧ w'.ownsRow (w.heap.size + 2) 9 1 u (fsOf xs).length (whats (fsOf xs)) ∧ Below w.heap.size w w' := by
  obtain ⟨i0, hi, hz0, hz1, hz2⟩ := info_parts stringInfo
  have HR := Lib.hid (fun w => faults_make_any hL w)
  refine callsIn_wide (n := 0) |>.1 ?_
  refine callsIn_of_wp_marks Tryd.func18 rfl trivial ?_ rfl
  simp only [Tryd.ntmps18, List.size_toArray, List.length_cons, List.length_nil, Nat.reduceAdd, Nat.reduceSub, Array.replicate_succ, Array.replicate_zero, List.push_toArray, List.append_toArray, List.nil_append, List.cons_append]
  have HL := Lib.hid hL
  clear hL
  gi_wp2_with fail
  refine ⟨trivial, rfl, (callsIn_wide.2 (HR.out _)).mono ?_⟩
  rintro e w' ⟨rfl, rfl⟩
  gi_wp2_with fail
  have hbox : ((w.alloc (.cells #[.slice none 0 0] 32)).alloc (.cells #[v] 35)).heap[w.heap.size]? = some (.cells #[.slice none 0 0] 32 (0, 0)) := by
    rw [Below.heap_alloc _ _ _ (by simp)]; exact World.alloc_heap_new w _
  have hbox2 : ((w.alloc (.cells #[.slice none 0 0] 32)).alloc (.cells #[v] 35)).cell? ⟨w.heap.size + 1, 0, none⟩ = some v := by
    rw [World.cell?_alloc_at _ _ _ _ (by simp)]; rfl
  have hb2 : Below w.heap.size w ((w.alloc (.cells #[.slice none 0 0] 32)).alloc (.cells #[v] 35)) := ((Below.refl _ w).alloc (Nat.le_refl _) _).alloc (by simp) _
  have hs2 : ((w.alloc (.cells #[.slice none 0 0] 32)).alloc (.cells #[v] 35)).heap.size = w.heap.size + 2 := by simp
  generalize ((w.alloc (.cells #[.slice none 0 0] 32)).alloc (.cells #[v] 35)) = W2 at *
  have hL2 : Chain W2 n₀ v xs := HL.out.below hb2 hn₀
  have hseq := faults_seq (fr := frS) frS_cells (fun _ _ => rfl) (w := W2) hlen (by omega) hbox2 hL2
  refine rangeZ (gf := 41) (lb := #[.pointer (some ⟨w.heap.size + 1, 0, none⟩)]) rfl (Go.Proofs.enters_of Tryd.func41 (by kernel_rfl) rfl) hseq frS_cells (by omega) (fun _ => rfl)
    (WhI w) (fun _ _ _ => False)
    (fun s A B row hs hg hr => by
      obtain ⟨u, h1, h2, h3, h4⟩ := hs
      exact ⟨u, ownFrom_block (β := Unit) (by omega) () A B row h1 hg hr, ownFrom_row (β := Unit) (B := W2.heap.size) () A B row h2 hg hr, ownFrom_below (β := Unit) (n₀ := w.heap.size) (Nat.le_refl _) (by omega) () A B row h3 hg hr, Nat.le_trans h4 hg.size⟩)
    (fun _ _ _ _ _ hs _ _ => hs.elim)
    ⟨_, hbox, World.ownsRow_nil _ _ _ _, hb2, by omega⟩
    (fun x => { tmps := #[v, undef, .slice none 0 0, .pointer (some ⟨w.heap.size, 0, none⟩), .pointer (some ⟨x.1, 0, none⟩), v, .func (.func 41) #[] #[.pointer (some ⟨w.heap.size + 1, 0, none⟩)], .pointer (some ⟨x.1, 0, none⟩), undef, undef, undef, undef, undef, undef, undef, undef], defers := [] })
    ?assign ?body ?done ?stop
  case assign =>
    intro l' x W3 K hK
    gi_wp2
    exact hK
  case body =>
    rintro l' pre ⟨b, p, s⟩ W3 ⟨u0, hb3, ho3, hB3, hsz3'⟩ hpre hsz3
    obtain ⟨hbn, u, hfo⟩ := hL2.fault_mem (b, p, s) (hpre.subset (by simp))
    have hfo3 : W3.heap[b]? = some (faultObj p s u) := by
      obtain ⟨_, u', hfo'⟩ := HL.out.fault_mem (b, p, s) (hpre.subset (by simp))
      have e1 := (hb2.block b (by dsimp at hbn; omega)).symm.trans hfo
      exact (hB3.block b (by dsimp at hbn; omega)).trans e1
    obtain ⟨hp0, hp1, hp2⟩ := faultObj_cell hfo3
    have hpl : pre.length < 1048576 := by have := hpre.length_le; have := fsOf_length xs; simp at *; omega
    have hbd1 : pre.length + 1 ≤ maxLen := by unfold maxLen; omega
    have hbd2 : (pre.length + 1) * 16 ≤ 140737488355328 := by omega
    have hc3 := cell_of_one hb3
    have hf3 := free_of_one hb3
    have hnews : ∀ j u, [Value.string s][j]? = some u → (W3.alloc (.cells #[.string s] 9)).drew.cell? ((⟨W3.heap.size, 0, none⟩ : Addr).add j) = some u := cell_one_new W3 (.string s) 9
    have HN := Lib.hid hnews
    have HO := Lib.hid ho3
    have HOD := Lib.hid ((ho3.alloc (.cells #[.string s] 9)).drew)
    have hOne := Lib.hid hb3
    have hLt := lt_of_block hb3
    have hlo : n₀ ≤ w.heap.size := hn₀
    clear hb3 hfo hfo3 hp0 hp2 ho3 hnews
    gi_wp2
    refine wpIn_region_any (by kernel_rfl) ?_
    change wpAnyIn _ _ _ _ _ _ _ _ _ (World.drew _)
    refine wpAnyIn_ready (rs := [0, 1]) (by kernel_rfl) (by simp) ?_
    refine AllReadyIn.cons rfl (fun K hK => ?_) ?_
    · go_simp
      refine hK _ _ ?_; clear hK K
      refine wpAnyIn_ready (rs := [1]) (by kernel_rfl) (by simp) ?_
      refine AllReadyIn.cons rfl (fun K hK => ?_) ?_
      · go_simp
        refine hK _ _ ?_; clear hK K
        refine wpAnyIn_ready (rs := [2]) (by kernel_rfl) (by simp) ?_
        refine AllReadyIn.cons rfl (fun K hK => ?_) ?_
        · go_simp
          refine hK _ _ ?_; clear hK K
          refine wpAnyIn_ready (rs := [3]) (by kernel_rfl) (by simp) ?_
          refine AllReadyIn.cons rfl (fun K hK => ?_) ?_
          · go_simp
            refine hK _ _ ?_; clear hK K
            refine wpAnyIn_ready (rs := [4]) (by kernel_rfl) (by simp) ?_
            refine AllReadyIn.cons rfl (fun K hK => ?_) ?_
            · go_simp
              refine hK _ _ ?_; clear hK K
              refine wpAnyIn_ready (rs := [5]) (by kernel_rfl) (by simp) ?_
              refine AllReadyIn.cons rfl (fun K hK => ?_) ?_
              · go_simp
                refine hK _ _ ?_; clear hK K
                refine wpAnyIn_ready (rs := [6]) (by kernel_rfl) (by simp) ?_
                refine AllReadyIn.cons rfl (fun K hK => ?_) ?_
                · refine stepIn_append rfl _ _ 32 rfl (w.heap.size + 2) 9 i0 (.string ByteArray.empty) 1 16 Tryd.underlying32 hi hz0 hz1 hz2 rfl (by decide) _ _ _ rfl HOD.out ⟨W3.heap.size, 0, none⟩ 1 1 [.string s] rfl rfl HN.out (by intro u hu; simp at hu; subst hu; rfl) hbd1 hbd2 (by show _ ≤ (W3.alloc _).heap.size; simp; omega) ?_
                  intro v' w1 hown1 hgrow
                  obtain ⟨g', cap', rfl, hg', hc1, hf1, hkeep, HREST⟩ := wh_app (hi := W2.heap.size) hOne.out HO.out hB3 hsz3' hlo hown1 hgrow
                  have HO1 := Lib.hid hown1
                  clear hown1 hgrow
                  refine hK _ _ ?_; clear hK K
                  refine wpAnyIn_ready (rs := [7]) (by kernel_rfl) (by simp) ?_
                  refine AllReadyIn.cons rfl (fun K hK => ?_) ?_
                  · go_simp
                    refine hK _ _ ?_; clear hK K
                    refine wpAnyIn_done (by kernel_rfl) ?_ _
                    obtain ⟨hB1, hs1, hq1⟩ := HREST.out
                    exact ⟨(hkeep.trans (Keep.setCell _ _ _ _ (p := ⟨w.heap.size, 0, none⟩) _ hn₀ (by show w.heap.size < W2.heap.size; omega))), _, one_setCell hq1, by unfold whats; rw [List.map_append, List.length_append]; exact ownsRow_setCell_other HO1.out (by simp [Value.ownBlock]; omega) _, hB1.setCell (p := ⟨w.heap.size, 0, none⟩) (Nat.le_refl _) _, by simpa [World.setCell] using hs1⟩
                  exact AllReadyIn.nil
                exact AllReadyIn.nil
              exact AllReadyIn.nil
            exact AllReadyIn.nil
          exact AllReadyIn.nil
        exact AllReadyIn.nil
      exact AllReadyIn.nil
    refine AllReadyIn.cons rfl (fun K hK => ?_) ?_
    · go_simp
      refine hK _ _ ?_; clear hK K
      refine wpAnyIn_ready (rs := [0, 2]) (by kernel_rfl) (by simp) ?_
      refine AllReadyIn.cons rfl (fun K hK => ?_) ?_
      · go_simp
        refine hK _ _ ?_; clear hK K
        refine wpAnyIn_ready (rs := [2]) (by kernel_rfl) (by simp) ?_
        refine AllReadyIn.cons rfl (fun K hK => ?_) ?_
        · go_simp
          refine hK _ _ ?_; clear hK K
          refine wpAnyIn_ready (rs := [3]) (by kernel_rfl) (by simp) ?_
          refine AllReadyIn.cons rfl (fun K hK => ?_) ?_
          · go_simp
            refine hK _ _ ?_; clear hK K
            refine wpAnyIn_ready (rs := [4]) (by kernel_rfl) (by simp) ?_
            refine AllReadyIn.cons rfl (fun K hK => ?_) ?_
            · go_simp
              refine hK _ _ ?_; clear hK K
              refine wpAnyIn_ready (rs := [5]) (by kernel_rfl) (by simp) ?_
              refine AllReadyIn.cons rfl (fun K hK => ?_) ?_
              · go_simp
                refine hK _ _ ?_; clear hK K
                refine wpAnyIn_ready (rs := [6]) (by kernel_rfl) (by simp) ?_
                refine AllReadyIn.cons rfl (fun K hK => ?_) ?_
                · refine stepIn_append rfl _ _ 32 rfl (w.heap.size + 2) 9 i0 (.string ByteArray.empty) 1 16 Tryd.underlying32 hi hz0 hz1 hz2 rfl (by decide) _ _ _ rfl HOD.out ⟨W3.heap.size, 0, none⟩ 1 1 [.string s] rfl rfl HN.out (by intro u hu; simp at hu; subst hu; rfl) hbd1 hbd2 (by show _ ≤ (W3.alloc _).heap.size; simp; omega) ?_
                  intro v' w1 hown1 hgrow
                  obtain ⟨g', cap', rfl, hg', hc1, hf1, hkeep, HREST⟩ := wh_app (hi := W2.heap.size) hOne.out HO.out hB3 hsz3' hlo hown1 hgrow
                  have HO1 := Lib.hid hown1
                  clear hown1 hgrow
                  refine hK _ _ ?_; clear hK K
                  refine wpAnyIn_ready (rs := [7]) (by kernel_rfl) (by simp) ?_
                  refine AllReadyIn.cons rfl (fun K hK => ?_) ?_
                  · go_simp
                    refine hK _ _ ?_; clear hK K
                    refine wpAnyIn_done (by kernel_rfl) ?_ _
                    obtain ⟨hB1, hs1, hq1⟩ := HREST.out
                    exact ⟨(hkeep.trans (Keep.setCell _ _ _ _ (p := ⟨w.heap.size, 0, none⟩) _ hn₀ (by show w.heap.size < W2.heap.size; omega))), _, one_setCell hq1, by unfold whats; rw [List.map_append, List.length_append]; exact ownsRow_setCell_other HO1.out (by simp [Value.ownBlock]; omega) _, hB1.setCell (p := ⟨w.heap.size, 0, none⟩) (Nat.le_refl _) _, by simpa [World.setCell] using hs1⟩
                  exact AllReadyIn.nil
                exact AllReadyIn.nil
              exact AllReadyIn.nil
            exact AllReadyIn.nil
          exact AllReadyIn.nil
        exact AllReadyIn.nil
      refine AllReadyIn.cons rfl (fun K hK => ?_) ?_
      · go_simp
        refine hK _ _ ?_; clear hK K
        refine wpAnyIn_ready (rs := [0, 3]) (by kernel_rfl) (by simp) ?_
        refine AllReadyIn.cons rfl (fun K hK => ?_) ?_
        · go_simp
          refine hK _ _ ?_; clear hK K
          refine wpAnyIn_ready (rs := [3]) (by kernel_rfl) (by simp) ?_
          refine AllReadyIn.cons rfl (fun K hK => ?_) ?_
          · go_simp
            refine hK _ _ ?_; clear hK K
            refine wpAnyIn_ready (rs := [4]) (by kernel_rfl) (by simp) ?_
            refine AllReadyIn.cons rfl (fun K hK => ?_) ?_
            · go_simp
              refine hK _ _ ?_; clear hK K
              refine wpAnyIn_ready (rs := [5]) (by kernel_rfl) (by simp) ?_
              refine AllReadyIn.cons rfl (fun K hK => ?_) ?_
              · go_simp
                refine hK _ _ ?_; clear hK K
                refine wpAnyIn_ready (rs := [6]) (by kernel_rfl) (by simp) ?_
                refine AllReadyIn.cons rfl (fun K hK => ?_) ?_
                · refine stepIn_append rfl _ _ 32 rfl (w.heap.size + 2) 9 i0 (.string ByteArray.empty) 1 16 Tryd.underlying32 hi hz0 hz1 hz2 rfl (by decide) _ _ _ rfl HOD.out ⟨W3.heap.size, 0, none⟩ 1 1 [.string s] rfl rfl HN.out (by intro u hu; simp at hu; subst hu; rfl) hbd1 hbd2 (by show _ ≤ (W3.alloc _).heap.size; simp; omega) ?_
                  intro v' w1 hown1 hgrow
                  obtain ⟨g', cap', rfl, hg', hc1, hf1, hkeep, HREST⟩ := wh_app (hi := W2.heap.size) hOne.out HO.out hB3 hsz3' hlo hown1 hgrow
                  have HO1 := Lib.hid hown1
                  clear hown1 hgrow
                  refine hK _ _ ?_; clear hK K
                  refine wpAnyIn_ready (rs := [7]) (by kernel_rfl) (by simp) ?_
                  refine AllReadyIn.cons rfl (fun K hK => ?_) ?_
                  · go_simp
                    refine hK _ _ ?_; clear hK K
                    refine wpAnyIn_done (by kernel_rfl) ?_ _
                    obtain ⟨hB1, hs1, hq1⟩ := HREST.out
                    exact ⟨(hkeep.trans (Keep.setCell _ _ _ _ (p := ⟨w.heap.size, 0, none⟩) _ hn₀ (by show w.heap.size < W2.heap.size; omega))), _, one_setCell hq1, by unfold whats; rw [List.map_append, List.length_append]; exact ownsRow_setCell_other HO1.out (by simp [Value.ownBlock]; omega) _, hB1.setCell (p := ⟨w.heap.size, 0, none⟩) (Nat.le_refl _) _, by simpa [World.setCell] using hs1⟩
                  exact AllReadyIn.nil
                exact AllReadyIn.nil
              exact AllReadyIn.nil
            exact AllReadyIn.nil
          exact AllReadyIn.nil
        refine AllReadyIn.cons rfl (fun K hK => ?_) ?_
        · go_simp
          refine hK _ _ ?_; clear hK K
          refine wpAnyIn_ready (rs := [0, 4]) (by kernel_rfl) (by simp) ?_
          refine AllReadyIn.cons rfl (fun K hK => ?_) ?_
          · go_simp
            refine hK _ _ ?_; clear hK K
            refine wpAnyIn_ready (rs := [4]) (by kernel_rfl) (by simp) ?_
            refine AllReadyIn.cons rfl (fun K hK => ?_) ?_
            · go_simp
              refine hK _ _ ?_; clear hK K
              refine wpAnyIn_ready (rs := [5]) (by kernel_rfl) (by simp) ?_
              refine AllReadyIn.cons rfl (fun K hK => ?_) ?_
              · go_simp
                refine hK _ _ ?_; clear hK K
                refine wpAnyIn_ready (rs := [6]) (by kernel_rfl) (by simp) ?_
                refine AllReadyIn.cons rfl (fun K hK => ?_) ?_
                · refine stepIn_append rfl _ _ 32 rfl (w.heap.size + 2) 9 i0 (.string ByteArray.empty) 1 16 Tryd.underlying32 hi hz0 hz1 hz2 rfl (by decide) _ _ _ rfl HOD.out ⟨W3.heap.size, 0, none⟩ 1 1 [.string s] rfl rfl HN.out (by intro u hu; simp at hu; subst hu; rfl) hbd1 hbd2 (by show _ ≤ (W3.alloc _).heap.size; simp; omega) ?_
                  intro v' w1 hown1 hgrow
                  obtain ⟨g', cap', rfl, hg', hc1, hf1, hkeep, HREST⟩ := wh_app (hi := W2.heap.size) hOne.out HO.out hB3 hsz3' hlo hown1 hgrow
                  have HO1 := Lib.hid hown1
                  clear hown1 hgrow
                  refine hK _ _ ?_; clear hK K
                  refine wpAnyIn_ready (rs := [7]) (by kernel_rfl) (by simp) ?_
                  refine AllReadyIn.cons rfl (fun K hK => ?_) ?_
                  · go_simp
                    refine hK _ _ ?_; clear hK K
                    refine wpAnyIn_done (by kernel_rfl) ?_ _
                    obtain ⟨hB1, hs1, hq1⟩ := HREST.out
                    exact ⟨(hkeep.trans (Keep.setCell _ _ _ _ (p := ⟨w.heap.size, 0, none⟩) _ hn₀ (by show w.heap.size < W2.heap.size; omega))), _, one_setCell hq1, by unfold whats; rw [List.map_append, List.length_append]; exact ownsRow_setCell_other HO1.out (by simp [Value.ownBlock]; omega) _, hB1.setCell (p := ⟨w.heap.size, 0, none⟩) (Nat.le_refl _) _, by simpa [World.setCell] using hs1⟩
                  exact AllReadyIn.nil
                exact AllReadyIn.nil
              exact AllReadyIn.nil
            exact AllReadyIn.nil
          refine AllReadyIn.cons rfl (fun K hK => ?_) ?_
          · go_simp
            refine hK _ _ ?_; clear hK K
            refine wpAnyIn_ready (rs := [0, 5]) (by kernel_rfl) (by simp) ?_
            refine AllReadyIn.cons rfl (fun K hK => ?_) ?_
            · go_simp
              refine hK _ _ ?_; clear hK K
              refine wpAnyIn_ready (rs := [5]) (by kernel_rfl) (by simp) ?_
              refine AllReadyIn.cons rfl (fun K hK => ?_) ?_
              · go_simp
                refine hK _ _ ?_; clear hK K
                refine wpAnyIn_ready (rs := [6]) (by kernel_rfl) (by simp) ?_
                refine AllReadyIn.cons rfl (fun K hK => ?_) ?_
                · refine stepIn_append rfl _ _ 32 rfl (w.heap.size + 2) 9 i0 (.string ByteArray.empty) 1 16 Tryd.underlying32 hi hz0 hz1 hz2 rfl (by decide) _ _ _ rfl HOD.out ⟨W3.heap.size, 0, none⟩ 1 1 [.string s] rfl rfl HN.out (by intro u hu; simp at hu; subst hu; rfl) hbd1 hbd2 (by show _ ≤ (W3.alloc _).heap.size; simp; omega) ?_
                  intro v' w1 hown1 hgrow
                  obtain ⟨g', cap', rfl, hg', hc1, hf1, hkeep, HREST⟩ := wh_app (hi := W2.heap.size) hOne.out HO.out hB3 hsz3' hlo hown1 hgrow
                  have HO1 := Lib.hid hown1
                  clear hown1 hgrow
                  refine hK _ _ ?_; clear hK K
                  refine wpAnyIn_ready (rs := [7]) (by kernel_rfl) (by simp) ?_
                  refine AllReadyIn.cons rfl (fun K hK => ?_) ?_
                  · go_simp
                    refine hK _ _ ?_; clear hK K
                    refine wpAnyIn_done (by kernel_rfl) ?_ _
                    obtain ⟨hB1, hs1, hq1⟩ := HREST.out
                    exact ⟨(hkeep.trans (Keep.setCell _ _ _ _ (p := ⟨w.heap.size, 0, none⟩) _ hn₀ (by show w.heap.size < W2.heap.size; omega))), _, one_setCell hq1, by unfold whats; rw [List.map_append, List.length_append]; exact ownsRow_setCell_other HO1.out (by simp [Value.ownBlock]; omega) _, hB1.setCell (p := ⟨w.heap.size, 0, none⟩) (Nat.le_refl _) _, by simpa [World.setCell] using hs1⟩
                  exact AllReadyIn.nil
                exact AllReadyIn.nil
              exact AllReadyIn.nil
            refine AllReadyIn.cons rfl (fun K hK => ?_) ?_
            · go_simp
              refine hK _ _ ?_; clear hK K
              refine wpAnyIn_ready (rs := [0]) (by kernel_rfl) (by simp) ?_
              refine AllReadyIn.cons rfl (fun K hK => ?_) ?_
              · go_simp
                refine hK _ _ ?_; clear hK K
                refine wpAnyIn_ready (rs := [6]) (by kernel_rfl) (by simp) ?_
                refine AllReadyIn.cons rfl (fun K hK => ?_) ?_
                · refine stepIn_append rfl _ _ 32 rfl (w.heap.size + 2) 9 i0 (.string ByteArray.empty) 1 16 Tryd.underlying32 hi hz0 hz1 hz2 rfl (by decide) _ _ _ rfl HOD.out ⟨W3.heap.size, 0, none⟩ 1 1 [.string s] rfl rfl HN.out (by intro u hu; simp at hu; subst hu; rfl) hbd1 hbd2 (by show _ ≤ (W3.alloc _).heap.size; simp; omega) ?_
                  intro v' w1 hown1 hgrow
                  obtain ⟨g', cap', rfl, hg', hc1, hf1, hkeep, HREST⟩ := wh_app (hi := W2.heap.size) hOne.out HO.out hB3 hsz3' hlo hown1 hgrow
                  have HO1 := Lib.hid hown1
                  clear hown1 hgrow
                  refine hK _ _ ?_; clear hK K
                  refine wpAnyIn_ready (rs := [7]) (by kernel_rfl) (by simp) ?_
                  refine AllReadyIn.cons rfl (fun K hK => ?_) ?_
                  · go_simp
                    refine hK _ _ ?_; clear hK K
                    refine wpAnyIn_done (by kernel_rfl) ?_ _
                    obtain ⟨hB1, hs1, hq1⟩ := HREST.out
                    exact ⟨(hkeep.trans (Keep.setCell _ _ _ _ (p := ⟨w.heap.size, 0, none⟩) _ hn₀ (by show w.heap.size < W2.heap.size; omega))), _, one_setCell hq1, by unfold whats; rw [List.map_append, List.length_append]; exact ownsRow_setCell_other HO1.out (by simp [Value.ownBlock]; omega) _, hB1.setCell (p := ⟨w.heap.size, 0, none⟩) (Nat.le_refl _) _, by simpa [World.setCell] using hs1⟩
                  exact AllReadyIn.nil
                exact AllReadyIn.nil
              exact AllReadyIn.nil
            exact AllReadyIn.nil
          exact AllReadyIn.nil
        exact AllReadyIn.nil
      exact AllReadyIn.nil
    exact AllReadyIn.nil
  case done =>
    rintro D ys W3 hD rfl ⟨u0, hb3, ho3, hB3, hsz3'⟩ hK
    have hc3 := cell_of_one hb3
    have hf3 := free_of_one hb3
    have HO := Lib.hid ho3
    have hsh := owns_shape0 ho3
    clear hb3 ho3
    rcases hsh with rfl | ⟨g, gc, rfl⟩
    · gi_wp2
      refine ⟨by simp, .inl ⟨_, _, rfl, run_takeDeferred hK, ?_⟩⟩
      have hfin := ownFrom_row (β := Unit) (B := 0) () W3 _ (some D) HO.out (grownBy_putObj' W3 D (.deferred none)) (fun r e => by cases e; exact ⟨Nat.zero_le _, _, hK, rfl⟩)
      refine ⟨_, results_tmp rfl _ _ _, .slice none 0 0, rfl, hfin, ?_⟩
      exact hB3.trans (belowK_b (w := w) (Nat.le_refl _) _ D _ _ (by omega) hK rfl rfl)
    · gi_wp2
      refine ⟨by simp, .inl ⟨_, _, rfl, run_takeDeferred hK, ?_⟩⟩
      have hfin := ownFrom_row (β := Unit) (B := 0) () W3 _ (some D) HO.out (grownBy_putObj' W3 D (.deferred none)) (fun r e => by cases e; exact ⟨Nat.zero_le _, _, hK, rfl⟩)
      refine ⟨_, results_tmp rfl _ _ _, .slice (some ⟨g, 0, none⟩) (fsOf xs).length gc, rfl, hfin, ?_⟩
      exact hB3.trans (belowK_b (w := w) (Nat.le_refl _) _ D _ _ (by omega) hK rfl rfl)
  case stop =>
    rintro D c pre W3 hD hpre h hK
    exact h.elim
end Go.Proofs.YtjajlfcmmgdfcaaDoor
