/-
  Package likely: Maximize. (Printed by wip/gen_tmax.py.)
-/
import Derived.Test.YthjfcfhibdpbnaaTClone
import Derived.Test.YthjfcfhibdpbnaaTFirst
import Derived.Shelf.Abstract
namespace Go.Proofs.Ythjfcfhibdpbnaa
open Go Go.RowKit

theorem cells2T {W : World} {B : Nat} {a b : Value} {t : TypeId} (h : W.heap[B]? = some (.cells #[a, b] t (0, 0))) : W.cell? ⟨B, 0, none⟩ = some a ∧ W.cell? ⟨B, 1, none⟩ = some b := ⟨cell_rowT 0 h rfl, cell_rowT 1 h rfl⟩
theorem results_cell_tmpT {P : Program} {fn : Func} {p q : Tmp} {ty : TypeId} (h : fn.results = #[.cell p ty, .tmp q]) (tmps : Array Value) (w : World) (g : Nat) (t : TypeId) (cs : Array Value) (fr : Nat × Nat) (d : TypeDesc) (v : Value)
    (hp : tmps.getD p undef = .pointer (some ⟨g, 0, none⟩)) (hv : tmps.getD q undef = v) (hg : w.heap[g]? = some (.cells cs t fr))
    (hu : P.underlying ty = some d) (hd : (match d with | .struct _ | .array _ _ => true | _ => false) = true) (hi : (P.info? ty).map (·.size) = some cs.size) :
    (results fn tmps).run P w = .ok (.tuple #[.agg cs, v]) w := by
  have hp' : tmps[p]?.getD undef = .pointer (some ⟨g, 0, none⟩) := by simpa using hp
  have hv' : tmps[q]?.getD undef = v := by simpa using hv
  simp [results, h, hp', hv', asAddr, run_loadVar_row w g t ty cs fr d hg hu hd hi]
set_option maxRecDepth 100000 in
theorem ladder_m (v : Value) (T : TagM) (w : World) (hT : TagIs w v T) :
    Calls Try.prog 29 #[v] w fun e w' => ∃ m, e = .returned (.func (.func 52) #[] #[.pointer (some ⟨m + 1, 0, none⟩), .pointer (some ⟨m + 2, 0, none⟩)]) ∧ LadAt (m + 1) (m + 2) T.lang T.script T.region w' ∧ Below w.heap.size w w' := by
  obtain ⟨ve, vv, vx, vp, rfl, ⟨a1, c1, rfl, _⟩, ⟨a2, c2, rfl, _⟩, ⟨a3, c3, rfl, _⟩, ⟨a4, c4, rfl, _⟩⟩ := hT
  exact (ladder_t T.lang T.script T.region T.grand a1 a2 a3 a4 _ _ _ _ c1 c2 c3 c4 w).mono fun e w' ⟨h1, h2, h3, _⟩ => ⟨_, h1, h2, h3⟩
theorem max_none {L : List Lr} {T : TagM} (h : firstB L (ladT T.lang T.script T.region) = false) : maxT L T = (T, false) := by
  unfold firstB at h
  unfold maxT
  cases hf : firstT L (ladT T.lang T.script T.region) with
  | none => rfl
  | some x => rw [hf] at h; cases h
theorem max_some {L : List Lr} {T : TagM} (h : firstB L (ladT T.lang T.script T.region) = true) : maxT L T = (fillT T (firstY L (ladT T.lang T.script T.region)), true) := by
  unfold firstB at h
  unfold maxT firstY
  cases hf : firstT L (ladT T.lang T.script T.region) with
  | none => rw [hf] at h; cases h
  | some x => rfl

set_option maxRecDepth 100000 in
set_option maxHeartbeats 8000000 in
theorem maxi_any (a1 a3 a4 : Option Addr) (n1 c1 n3 c3 n4 c4 : Nat) (th de : Int) (lk : Value) (L : List Lr) (v : Value) (T : TagM) (w : World) (hL : RowL w lk L) (hl : L.length ≤ 4000) (hS : RowS L) (hT : TagIs w v T) (hF : TagFits T) (hK : KST (T.lang, T.script, T.region)) :
    Calls Try.prog 14 #[.agg #[.slice a1 n1 c1, lk, .slice a3 n3 c3, .slice a4 n4 c4, .int .i64 th, .int .i64 de], v] w fun e w' => ∃ u, e = .returned (.tuple #[u, .bool (maxT L T).2]) ∧ TagIs w' u (maxT L T).1 ∧ Below w.heap.size w w' := by
  obtain ⟨lo, lc, rfl⟩ := hL.shape
  have HTI := Lib.hid hT
  obtain ⟨ve, vv, vx, vp, rfl, ⟨dde, ddec, rfl, -⟩, ⟨ddv, ddvc, rfl, -⟩, ⟨ddx, ddxc, rfl, -⟩, ⟨ddp, ddpc, rfl, -⟩⟩ := hT
  obtain ⟨W0, hW0⟩ : ∃ W0, ((w.alloc (.cells #[.slice a1 n1 c1, .slice lo L.length lc, .slice a3 n3 c3, .slice a4 n4 c4, .int .i64 th, .int .i64 de] 35)).alloc (.cells #[.string T.lang, .slice dde T.extl.length ddec, .string T.script, .string T.region, .slice ddv T.vars.length ddvc, .slice ddx T.exts.length ddxc, .slice ddp T.priv.length ddpc, .string T.grand] 40)).alloc (.cells #[.string ⟨#[]⟩, .slice none 0 0, .string ⟨#[]⟩, .string ⟨#[]⟩, .slice none 0 0, .slice none 0 0, .slice none 0 0, .string ⟨#[]⟩] 40) = W0 := ⟨_, rfl⟩
  have hz0 : W0.heap.size = w.heap.size + 3 := by rw [← hW0]; simp
  have hb0 : Below w.heap.size w W0 := by rw [← hW0]; exact (((Below.refl _ w).alloc (Nat.le_refl _) _).alloc (by simp) _).alloc (by simp; omega) _
  have hI0 : W0.heap[w.heap.size]? = some (.cells #[.slice a1 n1 c1, .slice lo L.length lc, .slice a3 n3 c3, .slice a4 n4 c4, .int .i64 th, .int .i64 de] 35 (0, 0)) := by
    rw [← hW0]
    exact (Below.heap_alloc _ _ _ (by simp; omega)).trans ((Below.heap_alloc _ _ _ (by simp)).trans (World.alloc_heap_new w _))
  have hA0 : W0.heap[w.heap.size + 1]? = some (.cells #[.string T.lang, .slice dde T.extl.length ddec, .string T.script, .string T.region, .slice ddv T.vars.length ddvc, .slice ddx T.exts.length ddxc, .slice ddp T.priv.length ddpc, .string T.grand] 40 (0, 0)) := by
    have h := World.alloc_heap_new (w.alloc (.cells #[.slice a1 n1 c1, .slice lo L.length lc, .slice a3 n3 c3, .slice a4 n4 c4, .int .i64 th, .int .i64 de] 35)) (.cells #[.string T.lang, .slice dde T.extl.length ddec, .string T.script, .string T.region, .slice ddv T.vars.length ddvc, .slice ddx T.exts.length ddxc, .slice ddp T.priv.length ddpc, .string T.grand] 40)
    rw [World.size_alloc] at h
    rw [← hW0]
    exact (Below.heap_alloc _ _ _ (by simp)).trans h
  have hR0 : W0.heap[w.heap.size + 2]? = some (.cells #[.string ⟨#[]⟩, .slice none 0 0, .string ⟨#[]⟩, .string ⟨#[]⟩, .slice none 0 0, .slice none 0 0, .slice none 0 0, .string ⟨#[]⟩] 40 (0, 0)) := by
    have h := World.alloc_heap_new ((w.alloc (.cells #[.slice a1 n1 c1, .slice lo L.length lc, .slice a3 n3 c3, .slice a4 n4 c4, .int .i64 th, .int .i64 de] 35)).alloc (.cells #[.string T.lang, .slice dde T.extl.length ddec, .string T.script, .string T.region, .slice ddv T.vars.length ddvc, .slice ddx T.exts.length ddxc, .slice ddp T.priv.length ddpc, .string T.grand] 40)) (.cells #[.string ⟨#[]⟩, .slice none 0 0, .string ⟨#[]⟩, .string ⟨#[]⟩, .slice none 0 0, .slice none 0 0, .slice none 0 0, .string ⟨#[]⟩] 40)
    rw [World.size_alloc, World.size_alloc] at h
    rw [← hW0]
    exact h
  have HB0 := Lib.hid hb0
  have HZ0 := Lib.hid hz0
  have HI0 := Lib.hid hI0
  have HA0 := Lib.hid hA0
  have HR0 := Lib.hid hR0
  have HL := Lib.hid hL
  have CC := Lib.hid (clone_t _ T W0 (HTI.out.below hb0) hF)
  have HW0 := Lib.hid hW0
  have hA1 := tag_cells hA0
  obtain ⟨t0, t1, t2, t3, t4, t5, t6, t7⟩ := hA1
  clear hW0 hb0 hz0 hI0 hA0 hR0 hL
  go_enter Try.func14, Try.ntmps14
  go_upto_region 1 with fail
  rw [HW0.out]
  go_upto_region 2 with (go_at_call 40; (with_reducible refine CC.out.mono ?_); rintro e w1 ⟨u, rfl, hN1, hb1⟩; have HN1 := Lib.hid hN1; have HB1 := Lib.hid hb1; obtain ⟨be, bec, bv, bvc, bx, bxc, bp, bpc, rfl⟩ := hN1.shape; clear hN1 hb1)
  obtain ⟨W1, hW1⟩ : ∃ W1, w1.alloc (.cells #[.string T.lang, .slice be T.extl.length bec, .string T.script, .string T.region, .slice bv T.vars.length bvc, .slice bx T.exts.length bxc, .slice bp T.priv.length bpc, .string T.grand] 40) = W1 := ⟨_, rfl⟩
  rw [hW1]
  have HBW := Lib.hid (show Below w1.heap.size w1 W1 by rw [← hW1]; exact (Below.refl _ _).alloc (Nat.le_refl _) _)
  have HF1 := Lib.hid (show W1.heap[w1.heap.size]? = some (.cells #[.string T.lang, .slice be T.extl.length bec, .string T.script, .string T.region, .slice bv T.vars.length bvc, .slice bx T.exts.length bxc, .slice bp T.priv.length bpc, .string T.grand] 40 (0, 0)) by rw [← hW1]; exact World.alloc_heap_new w1 _)
  have HN := Lib.hid (show w.heap.size + 3 ≤ w1.heap.size ∧ w.heap.size + 2 < W0.heap.size by have := HB1.out.size; have := HZ0.out; omega)
  have HI1 := Lib.hid ((HBW.out.block _ (by have := HN.out; omega)).trans ((HB1.out.block _ (lt_blockT HI0.out)).trans HI0.out))
  have HA1 := Lib.hid ((HBW.out.block _ (by have := HN.out; omega)).trans ((HB1.out.block _ (lt_blockT HA0.out)).trans HA0.out))
  have HR1 := Lib.hid ((HBW.out.block _ (by have := HN.out; omega)).trans ((HB1.out.block _ (lt_blockT HR0.out)).trans HR0.out))
  have HT1 := Lib.hid ((HN1.out.more).below HBW.out)
  have HB01 := Lib.hid (show Below w.heap.size w W1 from (HB0.out.trans (HB1.out.mono HB0.out.size)).trans (HBW.out.mono (by have := HN.out; omega)))
  have HCI := Lib.hid (fun (w' : World) (hb : Below W1.heap.size W1 w') => show w'.cell? ⟨w.heap.size, 1, none⟩ = some (.slice lo L.length lc) from cell_rowT 1 ((hb.block _ (lt_blockT HI1.out)).trans HI1.out) rfl)
  have HCT := Lib.hid (fun (w' : World) (hb : Below W1.heap.size W1 w') => tag_cells ((hb.block _ (lt_blockT HA1.out)).trans HA1.out))
  have CL := Lib.hid (fun w5 (hb : Below W1.heap.size W1 w5) => ladder_m _ T w5 (HTI.out.below (HB01.out.trans (hb.mono HB01.out.size))))
  obtain ⟨y, hy⟩ : ∃ y, firstY L (ladT T.lang T.script T.region) = y := ⟨_, rfl⟩
  obtain ⟨fb, hfb⟩ : ∃ b, firstB L (ladT T.lang T.script T.region) = b := ⟨_, rfl⟩
  have FC := Lib.hid (fun w5 (hb : Below W1.heap.size W1 w5) (m : Nat) (hla : LadAt (m + 1) (m + 2) T.lang T.script T.region w5) => show Calls Try.prog 41 #[.slice lo L.length lc, .func (.func 52) #[] #[.pointer (some ⟨m + 1, 0, none⟩), .pointer (some ⟨m + 2, 0, none⟩)]] w5 fun e w' => e = .returned (.tuple #[.agg #[.string y.l, .string y.s, .string y.r, .string y.tl, .string y.ts, .string y.tr], .bool fb]) ∧ Below w5.heap.size w5 w' from by
    have h := first_any (.slice lo L.length lc) L 52 #[.pointer (some ⟨m + 1, 0, none⟩), .pointer (some ⟨m + 2, 0, none⟩)] (ladT T.lang T.script T.region) w5 (HL.out.below (HB01.out.trans (hb.mono HB01.out.size))) hl hS (ladT_small hK) (Nat.le_trans (ladT_len _ _ _) (by omega)) (lad_seq ⟨lt_blockT hla.r, lt_blockT hla.s⟩ hla) (Go.Proofs.enters_of Try.func52 (by kernel_rfl) rfl)
    rw [hy, hfb] at h
    exact h)
  have HFB := Lib.hid hfb
  have HY := Lib.hid hy
  clear hfb hy hW1 t0 t1 t2 t3 t4 t5 t6 t7
  refine wp_region_held_drew (S := fun w' => Below W1.heap.size W1 w') (by kernel_rfl) (Below.drew (Below.refl W1.heap.size W1)) (fun hHeld => ?_)
  refine held_shell2 (aF := (fun b7 m => { tmps := #[.agg #[.slice a1 n1 c1, .slice lo L.length lc, .slice a3 n3 c3, .slice a4 n4 c4, .int .i64 th, .int .i64 de], .agg #[.string T.lang, .slice dde T.extl.length ddec, .string T.script, .string T.region, .slice ddv T.vars.length ddvc, .slice ddx T.exts.length ddxc, .slice ddp T.priv.length ddpc, .string T.grand], .pointer (some ⟨w.heap.size, 0, none⟩), .pointer (some ⟨w.heap.size + 1, 0, none⟩), .pointer (some ⟨w.heap.size + 2, 0, none⟩), .bool false, .pointer (some ⟨w1.heap.size, 0, none⟩), .pointer (some ⟨b7, 0, none⟩), .bool fb, .agg #[.string T.lang, .slice dde T.extl.length ddec, .string T.script, .string T.region, .slice ddv T.vars.length ddvc, .slice ddx T.exts.length ddxc, .slice ddp T.priv.length ddpc, .string T.grand], .agg #[.string T.lang, .slice be T.extl.length bec, .string T.script, .string T.region, .slice bv T.vars.length bvc, .slice bx T.exts.length bxc, .slice bp T.priv.length bpc, .string T.grand], .tuple #[.agg #[.string y.l, .string y.s, .string y.r, .string y.tl, .string y.ts, .string y.tr], .bool fb], .pointer (some ⟨w.heap.size, 1, none⟩), .slice lo L.length lc, .agg #[.string T.lang, .slice dde T.extl.length ddec, .string T.script, .string T.region, .slice ddv T.vars.length ddvc, .slice ddx T.exts.length ddxc, .slice ddp T.priv.length ddpc, .string T.grand], .func (.func 52) #[] #[.pointer (some ⟨m + 1, 0, none⟩), .pointer (some ⟨m + 2, 0, none⟩)], .tuple #[.agg #[.string y.l, .string y.s, .string y.r, .string y.tl, .string y.ts, .string y.tr], .bool fb], .agg #[.string y.l, .string y.s, .string y.r, .string y.tl, .string y.ts, .string y.tr], .bool fb, undef, undef, undef, undef, undef, undef, undef, undef, undef, undef, undef, undef, undef, undef, undef, undef, undef, undef, undef, undef, undef, undef, undef, undef], defers := [] })) (R := fun b7 _ w' => Below W1.heap.size W1 w' ∧ W1.heap.size ≤ b7 ∧ w'.heap[b7]? = some (.cells #[.string y.l, .string y.s, .string y.r, .string y.tl, .string y.ts, .string y.tr] 61 (0, 0))) (fun _ _ d _ _ h => by cases d <;> exact h) ?_ ?_
  rotate_left 1
  intro KK hKp hfin
  refine wpAnyH_take (i := 0) (v := .pointer (some ⟨w.heap.size, 1, none⟩)) rfl (by kernel_rfl) (by kernel_rfl) (by kernel_rfl) (fun c a w h => hKp c a _ _ w h) (Or.inl ⟨by kernel_rfl, fun w hSw => by go_simp⟩) hHeld ?_
  simp only [Act.put, List.getElem_toArray, List.getElem_cons_zero, List.setIfInBounds_toArray, List.set_cons_zero, List.set_cons_succ]
  refine wpAnyH_take (i := 1) (v := .slice lo L.length lc) rfl (by kernel_rfl) (by kernel_rfl) (by kernel_rfl) (fun c a w h => hKp c a _ _ w h) (Or.inl ⟨by kernel_rfl, fun w hSw => by have h1 := HCI.out w hSw; go_simp⟩) hHeld ?_
  simp only [Act.put, List.getElem_toArray, List.getElem_cons_zero, List.getElem_cons_succ, List.setIfInBounds_toArray, List.set_cons_zero, List.set_cons_succ]
  refine wpAnyH_take (i := 2) (v := .agg #[.string T.lang, .slice dde T.extl.length ddec, .string T.script, .string T.region, .slice ddv T.vars.length ddvc, .slice ddx T.exts.length ddxc, .slice ddp T.priv.length ddpc, .string T.grand]) rfl (by kernel_rfl) (by kernel_rfl) (by kernel_rfl) (fun c a w h => hKp c a _ _ w h) (Or.inl ⟨by kernel_rfl, fun w hSw => by obtain ⟨h0, h1, h2, h3, h4, h5, h6, h7⟩ := HCT.out w hSw; go_simp⟩) hHeld ?_
  simp only [Act.put, List.getElem_toArray, List.getElem_cons_zero, List.getElem_cons_succ, List.setIfInBounds_toArray, List.set_cons_zero, List.set_cons_succ]
  refine wpAnyH_ready (rs := [3, 8]) (by kernel_rfl) (by simp) ?_
  refine AllReadyH.cons rfl (fun Kx hKx => ?_) (AllReadyH.cons rfl (fun Kx hKx => ?_) AllReadyH.nil)
  · rw [if_pos (by kernel_rfl)]
    go_simp
    refine (CL.out _ hHeld).mono ?_
    rintro e w2 ⟨m, rfl, hla, hb2⟩
    have hH2 := hHeld.trans (hb2.mono hHeld.size)
    refine hKx.out _ _ hH2 (fun hHeld => ?_)
    clear hKx Kx
    try simp only [Act.put, List.getElem_toArray, List.getElem_cons_zero, List.getElem_cons_succ, List.setIfInBounds_toArray, List.set_cons_zero, List.set_cons_succ]
    refine wpAnyH_ready (rs := [4, 8]) (by kernel_rfl) (by simp) ?_
    refine AllReadyH.cons rfl (fun Kx hKx => ?_) (AllReadyH.cons rfl (fun Kx hKx => ?_) AllReadyH.nil)
    · rw [if_pos (by kernel_rfl)]
      go_simp
      refine (FC.out _ hHeld m hla).mono ?_
      rintro e w3 ⟨rfl, hb3⟩
      have hH3 := hHeld.trans (hb3.mono hHeld.size)
      refine hKx.out _ _ hH3 (fun hHeld => ?_)
      clear hKx Kx
      try simp only [Act.put, List.getElem_toArray, List.getElem_cons_zero, List.getElem_cons_succ, List.setIfInBounds_toArray, List.set_cons_zero, List.set_cons_succ]
      refine wpAnyH_take (i := 5) (v := .tuple #[.agg #[.string y.l, .string y.s, .string y.r, .string y.tl, .string y.ts, .string y.tr], .bool fb]) rfl (by kernel_rfl) (by kernel_rfl) (by kernel_rfl) (fun c a w h => hKp c a _ _ w h) (Or.inl ⟨by kernel_rfl, fun w hSw => by go_simp⟩) hHeld ?_
      simp only [Act.put, List.getElem_toArray, List.getElem_cons_zero, List.getElem_cons_succ, List.setIfInBounds_toArray, List.set_cons_zero, List.set_cons_succ]
      refine wpAnyH_take (i := 6) (v := .agg #[.string y.l, .string y.s, .string y.r, .string y.tl, .string y.ts, .string y.tr]) rfl (by kernel_rfl) (by kernel_rfl) (by kernel_rfl) (fun c a w h => hKp c a _ _ w h) (Or.inl ⟨by kernel_rfl, fun w hSw => by go_simp⟩) hHeld ?_
      simp only [Act.put, List.getElem_toArray, List.getElem_cons_zero, List.getElem_cons_succ, List.setIfInBounds_toArray, List.set_cons_zero, List.set_cons_succ]
      refine wpAnyH_take (i := 7) (v := .bool fb) rfl (by kernel_rfl) (by kernel_rfl) (by kernel_rfl) (fun c a w h => hKp c a _ _ w h) (Or.inl ⟨by kernel_rfl, fun w hSw => by go_simp⟩) hHeld ?_
      simp only [Act.put, List.getElem_toArray, List.getElem_cons_zero, List.getElem_cons_succ, List.setIfInBounds_toArray, List.set_cons_zero, List.set_cons_succ]
      refine wpAnyH_ready (rs := [8]) (by kernel_rfl) (by simp) ?_
      refine AllReadyH.cons rfl (fun Kx hKx => ?_) AllReadyH.nil
      rw [if_pos (by kernel_rfl)]
      go_simp
      obtain ⟨V, hV⟩ : ∃ V, World.alloc w3 (.cells #[.string ⟨#[]⟩, .string ⟨#[]⟩, .string ⟨#[]⟩, .string ⟨#[]⟩, .string ⟨#[]⟩, .string ⟨#[]⟩] 61) = V := ⟨_, rfl⟩
      have hblk : V.heap[(World.heap w3).size]? = some (.cells #[.string ⟨#[]⟩, .string ⟨#[]⟩, .string ⟨#[]⟩, .string ⟨#[]⟩, .string ⟨#[]⟩, .string ⟨#[]⟩] 61 (0, 0)) := by rw [← hV]; exact World.alloc_heap_new _ _
      have hble : W1.heap.size ≤ (World.heap w3).size := hHeld.size
      have hHV : Below W1.heap.size W1 V := by rw [← hV]; exact hHeld.alloc hHeld.size _
      rw [hV]
      clear hV
      refine hKx.out _ _ hHV (fun hHeld => ?_)
      clear hKx Kx
      try simp only [Act.put, List.getElem_toArray, List.getElem_cons_zero, List.getElem_cons_succ, List.setIfInBounds_toArray, List.set_cons_zero, List.set_cons_succ]
      refine wpAnyH_ready (rs := [9]) (by kernel_rfl) (by simp) ?_
      refine AllReadyH.cons rfl (fun Kx hKx => ?_) AllReadyH.nil
      rw [if_pos (by kernel_rfl)]
      refine wp_store_row _ _ _ rfl _ _ rfl rfl _ _ hblk sizeLrT rfl (by simp [Value.oneCell']) ?_
      have hHS := hHeld.grown (setRow_grownT _ _ #[.string y.l, .string y.s, .string y.r, .string y.tl, .string y.ts, .string y.tr]) hHeld.size (fun r e => by cases e; exact hble)
      have hblk := setRow_heap _ _ _ #[.string y.l, .string y.s, .string y.r, .string y.tl, .string y.ts, .string y.tr] _ _ hblk
      refine hKx.out _ _ hHS (fun hHeld => ?_)
      clear hKx Kx
      try simp only [Act.put, List.getElem_toArray, List.getElem_cons_zero, List.getElem_cons_succ]
      refine wpAnyH_take (i := 10) (v := .bool fb) rfl (by kernel_rfl) (by kernel_rfl) (by kernel_rfl) (fun c a w h => hKp c a _ _ w h) (Or.inl ⟨by kernel_rfl, fun w hSw => by go_simp⟩) hHeld ?_
      simp only [Act.put, List.getElem_toArray, List.getElem_cons_zero, List.getElem_cons_succ, List.setIfInBounds_toArray, List.set_cons_zero, List.set_cons_succ]
      refine wpAnyH_done (by kernel_rfl) ?_ _
      exact hfin _ _ _ ⟨hHeld, hble, hblk⟩
    · rw [if_pos (by kernel_rfl)]
      go_simp
      obtain ⟨V, hV⟩ : ∃ V, World.alloc w2 (.cells #[.string ⟨#[]⟩, .string ⟨#[]⟩, .string ⟨#[]⟩, .string ⟨#[]⟩, .string ⟨#[]⟩, .string ⟨#[]⟩] 61) = V := ⟨_, rfl⟩
      have hblk : V.heap[(World.heap w2).size]? = some (.cells #[.string ⟨#[]⟩, .string ⟨#[]⟩, .string ⟨#[]⟩, .string ⟨#[]⟩, .string ⟨#[]⟩, .string ⟨#[]⟩] 61 (0, 0)) := by rw [← hV]; exact World.alloc_heap_new _ _
      have hble : W1.heap.size ≤ (World.heap w2).size := hHeld.size
      have hHV : Below W1.heap.size W1 V := by rw [← hV]; exact hHeld.alloc hHeld.size _
      have hla : LadAt (m + 1) (m + 2) T.lang T.script T.region V := by rw [← hV]; exact hla.below ((Below.refl _ _).alloc (Nat.le_refl _) _)
      rw [hV]
      clear hV
      refine hKx.out _ _ hHV (fun hHeld => ?_)
      clear hKx Kx
      try simp only [Act.put, List.getElem_toArray, List.getElem_cons_zero, List.getElem_cons_succ, List.setIfInBounds_toArray, List.set_cons_zero, List.set_cons_succ]
      refine wpAnyH_ready (rs := [4]) (by kernel_rfl) (by simp) ?_
      refine AllReadyH.cons rfl (fun Kx hKx => ?_) AllReadyH.nil
      rw [if_pos (by kernel_rfl)]
      go_simp
      refine (FC.out _ hHeld m hla).mono ?_
      rintro e w3 ⟨rfl, hb3⟩
      have hH3 := hHeld.trans (hb3.mono hHeld.size)
      have hblk := (hb3.block _ (lt_blockT hblk)).trans hblk
      refine hKx.out _ _ hH3 (fun hHeld => ?_)
      clear hKx Kx
      try simp only [Act.put, List.getElem_toArray, List.getElem_cons_zero, List.getElem_cons_succ, List.setIfInBounds_toArray, List.set_cons_zero, List.set_cons_succ]
      refine wpAnyH_take (i := 5) (v := .tuple #[.agg #[.string y.l, .string y.s, .string y.r, .string y.tl, .string y.ts, .string y.tr], .bool fb]) rfl (by kernel_rfl) (by kernel_rfl) (by kernel_rfl) (fun c a w h => hKp c a _ _ w h) (Or.inl ⟨by kernel_rfl, fun w hSw => by go_simp⟩) hHeld ?_
      simp only [Act.put, List.getElem_toArray, List.getElem_cons_zero, List.getElem_cons_succ, List.setIfInBounds_toArray, List.set_cons_zero, List.set_cons_succ]
      refine wpAnyH_take (i := 6) (v := .agg #[.string y.l, .string y.s, .string y.r, .string y.tl, .string y.ts, .string y.tr]) rfl (by kernel_rfl) (by kernel_rfl) (by kernel_rfl) (fun c a w h => hKp c a _ _ w h) (Or.inl ⟨by kernel_rfl, fun w hSw => by go_simp⟩) hHeld ?_
      simp only [Act.put, List.getElem_toArray, List.getElem_cons_zero, List.getElem_cons_succ, List.setIfInBounds_toArray, List.set_cons_zero, List.set_cons_succ]
      refine wpAnyH_take (i := 7) (v := .bool fb) rfl (by kernel_rfl) (by kernel_rfl) (by kernel_rfl) (fun c a w h => hKp c a _ _ w h) (Or.inl ⟨by kernel_rfl, fun w hSw => by go_simp⟩) hHeld ?_
      simp only [Act.put, List.getElem_toArray, List.getElem_cons_zero, List.getElem_cons_succ, List.setIfInBounds_toArray, List.set_cons_zero, List.set_cons_succ]
      refine wpAnyH_ready (rs := [9]) (by kernel_rfl) (by simp) ?_
      refine AllReadyH.cons rfl (fun Kx hKx => ?_) AllReadyH.nil
      rw [if_pos (by kernel_rfl)]
      refine wp_store_row _ _ _ rfl _ _ rfl rfl _ _ hblk sizeLrT rfl (by simp [Value.oneCell']) ?_
      have hHS := hHeld.grown (setRow_grownT _ _ #[.string y.l, .string y.s, .string y.r, .string y.tl, .string y.ts, .string y.tr]) hHeld.size (fun r e => by cases e; exact hble)
      have hblk := setRow_heap _ _ _ #[.string y.l, .string y.s, .string y.r, .string y.tl, .string y.ts, .string y.tr] _ _ hblk
      refine hKx.out _ _ hHS (fun hHeld => ?_)
      clear hKx Kx
      try simp only [Act.put, List.getElem_toArray, List.getElem_cons_zero, List.getElem_cons_succ]
      refine wpAnyH_take (i := 10) (v := .bool fb) rfl (by kernel_rfl) (by kernel_rfl) (by kernel_rfl) (fun c a w h => hKp c a _ _ w h) (Or.inl ⟨by kernel_rfl, fun w hSw => by go_simp⟩) hHeld ?_
      simp only [Act.put, List.getElem_toArray, List.getElem_cons_zero, List.getElem_cons_succ, List.setIfInBounds_toArray, List.set_cons_zero, List.set_cons_succ]
      refine wpAnyH_done (by kernel_rfl) ?_ _
      exact hfin _ _ _ ⟨hHeld, hble, hblk⟩
  · rw [if_pos (by kernel_rfl)]
    go_simp
    obtain ⟨V, hV⟩ : ∃ V, (World.alloc W1 (.cells #[.string ⟨#[]⟩, .string ⟨#[]⟩, .string ⟨#[]⟩, .string ⟨#[]⟩, .string ⟨#[]⟩, .string ⟨#[]⟩] 61)).drew = V := ⟨_, rfl⟩
    have hblk : V.heap[W1.heap.size]? = some (.cells #[.string ⟨#[]⟩, .string ⟨#[]⟩, .string ⟨#[]⟩, .string ⟨#[]⟩, .string ⟨#[]⟩, .string ⟨#[]⟩] 61 (0, 0)) := by rw [← hV]; exact World.alloc_heap_new W1 _
    have hble : W1.heap.size ≤ W1.heap.size := Nat.le_refl _
    have hHV : Below W1.heap.size W1 V := by rw [← hV]; exact Below.drew ((Below.refl _ W1).alloc (Nat.le_refl _) _)
    rw [hV]
    clear hV
    refine hKx.out _ _ hHV (fun hHeld => ?_)
    clear hKx Kx
    try simp only [Act.put, List.getElem_toArray, List.getElem_cons_zero, List.getElem_cons_succ, List.setIfInBounds_toArray, List.set_cons_zero, List.set_cons_succ]
    refine wpAnyH_ready (rs := [3]) (by kernel_rfl) (by simp) ?_
    refine AllReadyH.cons rfl (fun Kx hKx => ?_) AllReadyH.nil
    rw [if_pos (by kernel_rfl)]
    go_simp
    refine (CL.out _ hHeld).mono ?_
    rintro e w2 ⟨m, rfl, hla, hb2⟩
    have hH2 := hHeld.trans (hb2.mono hHeld.size)
    have hblk := (hb2.block _ (lt_blockT hblk)).trans hblk
    refine hKx.out _ _ hH2 (fun hHeld => ?_)
    clear hKx Kx
    try simp only [Act.put, List.getElem_toArray, List.getElem_cons_zero, List.getElem_cons_succ, List.setIfInBounds_toArray, List.set_cons_zero, List.set_cons_succ]
    refine wpAnyH_ready (rs := [4]) (by kernel_rfl) (by simp) ?_
    refine AllReadyH.cons rfl (fun Kx hKx => ?_) AllReadyH.nil
    rw [if_pos (by kernel_rfl)]
    go_simp
    refine (FC.out _ hHeld m hla).mono ?_
    rintro e w3 ⟨rfl, hb3⟩
    have hH3 := hHeld.trans (hb3.mono hHeld.size)
    have hblk := (hb3.block _ (lt_blockT hblk)).trans hblk
    refine hKx.out _ _ hH3 (fun hHeld => ?_)
    clear hKx Kx
    try simp only [Act.put, List.getElem_toArray, List.getElem_cons_zero, List.getElem_cons_succ, List.setIfInBounds_toArray, List.set_cons_zero, List.set_cons_succ]
    refine wpAnyH_take (i := 5) (v := .tuple #[.agg #[.string y.l, .string y.s, .string y.r, .string y.tl, .string y.ts, .string y.tr], .bool fb]) rfl (by kernel_rfl) (by kernel_rfl) (by kernel_rfl) (fun c a w h => hKp c a _ _ w h) (Or.inl ⟨by kernel_rfl, fun w hSw => by go_simp⟩) hHeld ?_
    simp only [Act.put, List.getElem_toArray, List.getElem_cons_zero, List.getElem_cons_succ, List.setIfInBounds_toArray, List.set_cons_zero, List.set_cons_succ]
    refine wpAnyH_take (i := 6) (v := .agg #[.string y.l, .string y.s, .string y.r, .string y.tl, .string y.ts, .string y.tr]) rfl (by kernel_rfl) (by kernel_rfl) (by kernel_rfl) (fun c a w h => hKp c a _ _ w h) (Or.inl ⟨by kernel_rfl, fun w hSw => by go_simp⟩) hHeld ?_
    simp only [Act.put, List.getElem_toArray, List.getElem_cons_zero, List.getElem_cons_succ, List.setIfInBounds_toArray, List.set_cons_zero, List.set_cons_succ]
    refine wpAnyH_take (i := 7) (v := .bool fb) rfl (by kernel_rfl) (by kernel_rfl) (by kernel_rfl) (fun c a w h => hKp c a _ _ w h) (Or.inl ⟨by kernel_rfl, fun w hSw => by go_simp⟩) hHeld ?_
    simp only [Act.put, List.getElem_toArray, List.getElem_cons_zero, List.getElem_cons_succ, List.setIfInBounds_toArray, List.set_cons_zero, List.set_cons_succ]
    refine wpAnyH_ready (rs := [9]) (by kernel_rfl) (by simp) ?_
    refine AllReadyH.cons rfl (fun Kx hKx => ?_) AllReadyH.nil
    rw [if_pos (by kernel_rfl)]
    refine wp_store_row _ _ _ rfl _ _ rfl rfl _ _ hblk sizeLrT rfl (by simp [Value.oneCell']) ?_
    have hHS := hHeld.grown (setRow_grownT _ _ #[.string y.l, .string y.s, .string y.r, .string y.tl, .string y.ts, .string y.tr]) hHeld.size (fun r e => by cases e; exact hble)
    have hblk := setRow_heap _ _ _ #[.string y.l, .string y.s, .string y.r, .string y.tl, .string y.ts, .string y.tr] _ _ hblk
    refine hKx.out _ _ hHS (fun hHeld => ?_)
    clear hKx Kx
    try simp only [Act.put, List.getElem_toArray, List.getElem_cons_zero, List.getElem_cons_succ]
    refine wpAnyH_take (i := 10) (v := .bool fb) rfl (by kernel_rfl) (by kernel_rfl) (by kernel_rfl) (fun c a w h => hKp c a _ _ w h) (Or.inl ⟨by kernel_rfl, fun w hSw => by go_simp⟩) hHeld ?_
    simp only [Act.put, List.getElem_toArray, List.getElem_cons_zero, List.getElem_cons_succ, List.setIfInBounds_toArray, List.set_cons_zero, List.set_cons_succ]
    refine wpAnyH_done (by kernel_rfl) ?_ _
    exact hfin _ _ _ ⟨hHeld, hble, hblk⟩
  rintro b7 m W2 ⟨hb2, hle7, hY7⟩
  dsimp only
  have HF2 := Lib.hid ((hb2.block _ (lt_blockT HF1.out)).trans HF1.out)
  have HR2 := Lib.hid ((hb2.block _ (lt_blockT HR1.out)).trans HR1.out)
  have HT2 := Lib.hid (HT1.out.below hb2)
  have HBW2 := Lib.hid (HB01.out.trans (hb2.mono HB01.out.size))
  have HLE7 := Lib.hid (show w1.heap.size < b7 from Nat.lt_of_lt_of_le (lt_blockT HF1.out) hle7)
  have HY7 := Lib.hid hY7
  clear hb2 hle7 hY7 CL FC HCI HCT
  cases fb with
  | false =>
    have HMX := Lib.hid (max_none HFB.out)
    obtain ⟨t0, t1, t2, t3, t4, t5, t6, t7⟩ := tag_cells HF2.out
    go_wp2_with (refine wpList_store_row rfl _ _ _ rfl _ _ rfl rfl _ _ HR2.out sizeTagT rfl (by simp [Value.oneCell']) ?_)
    refine bodyPost_ret (results_cell_tmpT rfl _ _ (w.heap.size + 2) 40 #[.string T.lang, .slice be T.extl.length bec, .string T.script, .string T.region, .slice bv T.vars.length bvc, .slice bx T.exts.length bxc, .slice bp T.priv.length bpc, .string T.grand] (0, 0) _ (.bool false) rfl rfl (setRow_heap _ _ _ _ _ _ HR2.out) Try.underlying40 rfl sizeTagT) rfl ?_
    have HE := setRow_grownT W2 (w.heap.size + 2) #[.string T.lang, .slice be T.extl.length bec, .string T.script, .string T.region, .slice bv T.vars.length bvc, .slice bx T.exts.length bxc, .slice bp T.priv.length bpc, .string T.grand]
    rw [HMX.out]
    exact ⟨_, rfl, (HT2.out.grown HE (.inl HN.out.2)).is, HBW2.out.grown HE (by have := lt_blockT HR2.out; omega) (fun r e => by cases e; omega)⟩
  | true =>
    have HMS := Lib.hid (max_some HFB.out)
    have hu := same_undT T.lang
    by_cases hlg : T.lang = undT
    · rw [decide_eq_true hlg] at hu
      have HMX := Lib.hid (show (maxT L T).1 = { T with lang := y.tl, script := orT T.script y.ts, region := orT T.region y.tr } ∧ (maxT L T).2 = true by
        rw [HMS.out, HY.out]
        refine ⟨?_, rfl⟩
        unfold fillT
        rw [if_pos hlg])
      have l0 := cell_rowT 0 HF2.out rfl
      have f0 := frozenT 0 HF2.out
      have yy := cell_rowT 3 HY7.out rfl
      clear hlg
      go_upto_region 7 with fail
      obtain ⟨W3, hW3⟩ : ∃ W3, W2.setCell ⟨w1.heap.size, 0, none⟩ (.string y.tl) = W3 := ⟨_, rfl⟩
      rw [hW3]
      have hg3 : W2.grownBy W3 (some w1.heap.size) := by rw [← hW3]; exact grown_setT (World.grownBy.refl W2 (some w1.heap.size)) 0 _
      have HF3 := Lib.hid (show W3.heap[w1.heap.size]? = some (.cells #[.string y.tl, .slice be T.extl.length bec, .string T.script, .string T.region, .slice bv T.vars.length bvc, .slice bx T.exts.length bxc, .slice bp T.priv.length bpc, .string T.grand] 40 (0, 0)) by rw [← hW3]; exact cells_setT HF2.out _)
      have HZ3 := Lib.hid ((hg3.block _ (lt_blockT HR2.out) (fun e => by have := Option.some.inj e; have := HN.out; omega)).trans HR2.out)
      have HY3 := Lib.hid ((hg3.block _ (lt_blockT HY7.out) (fun e => by have := Option.some.inj e; have := HLE7.out; omega)).trans HY7.out)
      have HT3 := Lib.hid (HT2.out.grown hg3 (.inr (Nat.le_refl _)))
      have HB3 := Lib.hid (HBW2.out.grown hg3 (by have := lt_blockT HR2.out; omega) (fun r e => by cases e; have := HN.out; omega))
      have HC7 := Lib.hid (fun (w' : World) (hb : Below W3.heap.size W3 w') => show w'.cell? ⟨w1.heap.size, 2, none⟩ = some (.string T.script) ∧ w'.cell? ⟨b7, 4, none⟩ = some (.string y.ts) ∧ w'.cell? ⟨w1.heap.size, 3, none⟩ = some (.string T.region) ∧ w'.cell? ⟨b7, 5, none⟩ = some (.string y.tr) from
        ⟨cell_rowT 2 ((hb.block _ (lt_blockT HF3.out)).trans HF3.out) rfl, cell_rowT 4 ((hb.block _ (lt_blockT HY3.out)).trans HY3.out) rfl, cell_rowT 3 ((hb.block _ (lt_blockT HF3.out)).trans HF3.out) rfl, cell_rowT 5 ((hb.block _ (lt_blockT HY3.out)).trans HY3.out) rfl⟩)
      clear hW3 hg3 l0 f0 yy hu
      refine wp_region_late_drew (S := fun w' => Below W3.heap.size W3 w') (k := 13) (by kernel_rfl) (Below.drew (Below.refl W3.heap.size W3)) (fun hHeld => ?_)
      refine late_shell (fun _ _ d _ _ h => by cases d <;> exact h) ?_
      intro KK hKp hfin
      refine wpAnyZ_take (i := 0) (v := .pointer (some ⟨w1.heap.size, 2, none⟩)) rfl (by kernel_rfl) (by kernel_rfl) (by kernel_rfl) (by kernel_rfl) (by kernel_rfl) (by kernel_rfl) (fun c a w h => hKp c a _ _ w h) (Or.inl ⟨by kernel_rfl, fun w hSw => by obtain ⟨k0, k1, k2, k3⟩ := HC7.out w hSw; go_simp⟩) hHeld ?_
      simp only [Act.put, List.getElem_toArray, List.getElem_cons_zero, List.setIfInBounds_toArray, List.set_cons_zero, List.set_cons_succ]
      refine wpAnyZ_take (i := 1) (v := .string T.script) rfl (by kernel_rfl) (by kernel_rfl) (by kernel_rfl) (by kernel_rfl) (by kernel_rfl) (by kernel_rfl) (fun c a w h => hKp c a _ _ w h) (Or.inl ⟨by kernel_rfl, fun w hSw => by obtain ⟨k0, k1, k2, k3⟩ := HC7.out w hSw; go_simp⟩) hHeld ?_
      simp only [Act.put, List.getElem_toArray, List.getElem_cons_zero, List.getElem_cons_succ, List.setIfInBounds_toArray, List.set_cons_zero, List.set_cons_succ]
      refine wpAnyZ_take (i := 2) (v := .pointer (some ⟨b7, 4, none⟩)) rfl (by kernel_rfl) (by kernel_rfl) (by kernel_rfl) (by kernel_rfl) (by kernel_rfl) (by kernel_rfl) (fun c a w h => hKp c a _ _ w h) (Or.inl ⟨by kernel_rfl, fun w hSw => by obtain ⟨k0, k1, k2, k3⟩ := HC7.out w hSw; go_simp⟩) hHeld ?_
      simp only [Act.put, List.getElem_toArray, List.getElem_cons_zero, List.getElem_cons_succ, List.setIfInBounds_toArray, List.set_cons_zero, List.set_cons_succ]
      refine wpAnyZ_take (i := 3) (v := .string y.ts) rfl (by kernel_rfl) (by kernel_rfl) (by kernel_rfl) (by kernel_rfl) (by kernel_rfl) (by kernel_rfl) (fun c a w h => hKp c a _ _ w h) (Or.inl ⟨by kernel_rfl, fun w hSw => by obtain ⟨k0, k1, k2, k3⟩ := HC7.out w hSw; go_simp⟩) hHeld ?_
      simp only [Act.put, List.getElem_toArray, List.getElem_cons_zero, List.getElem_cons_succ, List.setIfInBounds_toArray, List.set_cons_zero, List.set_cons_succ]
      refine wpAnyZ_take (i := 6) (v := .pointer (some ⟨w1.heap.size, 3, none⟩)) rfl (by kernel_rfl) (by kernel_rfl) (by kernel_rfl) (by kernel_rfl) (by kernel_rfl) (by kernel_rfl) (fun c a w h => hKp c a _ _ w h) (Or.inl ⟨by kernel_rfl, fun w hSw => by obtain ⟨k0, k1, k2, k3⟩ := HC7.out w hSw; go_simp⟩) hHeld ?_
      simp only [Act.put, List.getElem_toArray, List.getElem_cons_zero, List.getElem_cons_succ, List.setIfInBounds_toArray, List.set_cons_zero, List.set_cons_succ]
      refine wpAnyZ_take (i := 7) (v := .string T.region) rfl (by kernel_rfl) (by kernel_rfl) (by kernel_rfl) (by kernel_rfl) (by kernel_rfl) (by kernel_rfl) (fun c a w h => hKp c a _ _ w h) (Or.inl ⟨by kernel_rfl, fun w hSw => by obtain ⟨k0, k1, k2, k3⟩ := HC7.out w hSw; go_simp⟩) hHeld ?_
      simp only [Act.put, List.getElem_toArray, List.getElem_cons_zero, List.getElem_cons_succ, List.setIfInBounds_toArray, List.set_cons_zero, List.set_cons_succ]
      refine wpAnyZ_take (i := 8) (v := .pointer (some ⟨b7, 5, none⟩)) rfl (by kernel_rfl) (by kernel_rfl) (by kernel_rfl) (by kernel_rfl) (by kernel_rfl) (by kernel_rfl) (fun c a w h => hKp c a _ _ w h) (Or.inl ⟨by kernel_rfl, fun w hSw => by obtain ⟨k0, k1, k2, k3⟩ := HC7.out w hSw; go_simp⟩) hHeld ?_
      simp only [Act.put, List.getElem_toArray, List.getElem_cons_zero, List.getElem_cons_succ, List.setIfInBounds_toArray, List.set_cons_zero, List.set_cons_succ]
      refine wpAnyZ_take (i := 9) (v := .string y.tr) rfl (by kernel_rfl) (by kernel_rfl) (by kernel_rfl) (by kernel_rfl) (by kernel_rfl) (by kernel_rfl) (fun c a w h => hKp c a _ _ w h) (Or.inl ⟨by kernel_rfl, fun w hSw => by obtain ⟨k0, k1, k2, k3⟩ := HC7.out w hSw; go_simp⟩) hHeld ?_
      simp only [Act.put, List.getElem_toArray, List.getElem_cons_zero, List.getElem_cons_succ, List.setIfInBounds_toArray, List.set_cons_zero, List.set_cons_succ]
      refine wpAnyZ_ready (rs := [4, 10]) (by kernel_rfl) (by simp) ?_
      refine AllReadyZ.cons rfl (fun Kx hKx => ?_) (AllReadyZ.cons rfl (fun Kx hKx => ?_) AllReadyZ.nil)
      · rw [if_pos (by kernel_rfl)]
        go_simp
        obtain ⟨V, hV⟩ : ∃ V, (World.alloc W3 (.cells #[.string T.script, .string y.ts] 9)).drew = V := ⟨_, rfl⟩
        have qa := cells2T (show V.heap[W3.heap.size]? = some (.cells #[.string T.script, .string y.ts] 9 (0, 0)) by rw [← hV]; exact World.alloc_heap_new W3 _)
        have hHV : Below W3.heap.size W3 V := by rw [← hV]; exact Below.drew ((Below.refl _ W3).alloc (Nat.le_refl _) _)
        rw [hV]
        clear hV
        refine hKx.out _ _ hHV (fun hHeld => ?_)
        clear hKx Kx
        try simp only [Act.put, List.getElem_toArray, List.getElem_cons_zero, List.getElem_cons_succ, List.setIfInBounds_toArray, List.set_cons_zero, List.set_cons_succ]
        refine wpAnyZ_ready (rs := [5, 10]) (by kernel_rfl) (by simp) ?_
        refine AllReadyZ.cons rfl (fun Kx hKx => ?_) (AllReadyZ.cons rfl (fun Kx hKx => ?_) AllReadyZ.nil)
        · rw [if_pos (by kernel_rfl)]
          go_simp
          refine (orT_any T.script y.ts _ _ qa.1 qa.2).mono ?_
          rintro e w4 ⟨rfl, hw4⟩
          obtain rfl : V = w4 := hw4.symm
          refine hKx.out _ _ hHeld (fun hHeld => ?_)
          clear hKx Kx
          try simp only [Act.put, List.getElem_toArray, List.getElem_cons_zero, List.getElem_cons_succ, List.setIfInBounds_toArray, List.set_cons_zero, List.set_cons_succ]
          refine wpAnyZ_take (i := 12) (v := .pointer (some ⟨w1.heap.size, 2, none⟩)) rfl (by kernel_rfl) (by kernel_rfl) (by kernel_rfl) (by kernel_rfl) (by kernel_rfl) (by kernel_rfl) (fun c a w h => hKp c a _ _ w h) (Or.inl ⟨by kernel_rfl, fun w hSw => by go_simp⟩) hHeld ?_
          simp only [Act.put, List.getElem_toArray, List.getElem_cons_zero, List.getElem_cons_succ, List.setIfInBounds_toArray, List.set_cons_zero, List.set_cons_succ]
          refine wpAnyZ_ready (rs := [10]) (by kernel_rfl) (by simp) ?_
          refine AllReadyZ.cons rfl (fun Kx hKx => ?_) AllReadyZ.nil
          rw [if_pos (by kernel_rfl)]
          go_simp
          obtain ⟨U, hU⟩ : ∃ x, World.alloc V (.cells #[.string T.region, .string y.tr] 9) = x := ⟨_, rfl⟩
          have qb := cells2T (show U.heap[(World.heap V).size]? = some (.cells #[.string T.region, .string y.tr] 9 (0, 0)) by rw [← hU]; exact World.alloc_heap_new _ _)
          have hHU : Below W3.heap.size W3 U := by rw [← hU]; exact hHeld.alloc hHeld.size _
          have hNB : Below (World.heap V).size V U := by rw [← hU]; exact (Below.refl _ _).alloc (Nat.le_refl _) _
          rw [hU]
          clear hU
          refine hKx.out _ _ hHU (fun hHeld => ?_)
          clear hKx Kx
          try simp only [Act.put, List.getElem_toArray, List.getElem_cons_zero, List.getElem_cons_succ, List.setIfInBounds_toArray, List.set_cons_zero, List.set_cons_succ]
          refine wpAnyZ_ready (rs := [11]) (by kernel_rfl) (by simp) ?_
          refine AllReadyZ.cons rfl (fun Kx hKx => ?_) AllReadyZ.nil
          rw [if_pos (by kernel_rfl)]
          go_simp
          refine (orT_any T.region y.tr _ _ qb.1 qb.2).mono ?_
          rintro e w4 ⟨rfl, hw4⟩
          obtain rfl : U = w4 := hw4.symm
          refine hKx.out _ _ hHeld (fun hHeld => ?_)
          clear hKx Kx
          try simp only [Act.put, List.getElem_toArray, List.getElem_cons_zero, List.getElem_cons_succ, List.setIfInBounds_toArray, List.set_cons_zero, List.set_cons_succ]
          have HHE := Lib.hid hHeld
          have HF7 := Lib.hid ((HHE.out.block _ (lt_blockT HF3.out)).trans HF3.out)
          have g1 := cell_rowT 2 HF7.out rfl
          have f1 := frozenT 2 HF7.out
          refine wpAnyZ_ready (rs := [13]) (by kernel_rfl) (by simp) ?_
          refine AllReadyZ.late rfl (by decide) (fun Kx hKx => ?_) AllReadyZ.nil
          rw [if_pos (by kernel_rfl)]
          go_simp
          refine hKx.out _ _ ?_
          clear hKx Kx
          try simp only [Act.put, List.getElem_toArray, List.getElem_cons_zero, List.getElem_cons_succ, List.setIfInBounds_toArray, List.set_cons_zero, List.set_cons_succ]
          obtain ⟨X1, hX1⟩ : ∃ X1, World.setCell U ⟨w1.heap.size, 2, none⟩ (.string (orT T.script y.ts)) = X1 := ⟨_, rfl⟩
          rw [hX1]
          have HX1 := Lib.hid (show X1.heap[w1.heap.size]? = some (.cells #[.string y.tl, .slice be T.extl.length bec, .string (orT T.script y.ts), .string T.region, .slice bv T.vars.length bvc, .slice bx T.exts.length bxc, .slice bp T.priv.length bpc, .string T.grand] 40 (0, 0)) by rw [← hX1]; exact cells_setT HF7.out _)
          have HG1 := Lib.hid (show World.grownBy U X1 (some w1.heap.size) by rw [← hX1]; exact grown_setT (World.grownBy.refl U (some w1.heap.size)) 2 _)
          clear hX1 g1 f1
          refine wpAnyZ_ready (rs := [14]) (by kernel_rfl) (by simp) ?_
          refine AllReadyZ.late rfl (by decide) (fun Kx hKx => ?_) AllReadyZ.nil
          rw [if_pos (by kernel_rfl)]
          go_simp
          refine hKx.out _ _ ?_
          clear hKx Kx
          try simp only [Act.put, List.getElem_toArray, List.getElem_cons_zero, List.getElem_cons_succ, List.setIfInBounds_toArray, List.set_cons_zero, List.set_cons_succ]
          have g1 := cell_rowT 3 HX1.out rfl
          have f1 := frozenT 3 HX1.out
          refine wpAnyZ_ready (rs := [15]) (by kernel_rfl) (by simp) ?_
          refine AllReadyZ.late rfl (by decide) (fun Kx hKx => ?_) AllReadyZ.nil
          rw [if_pos (by kernel_rfl)]
          go_simp
          refine hKx.out _ _ ?_
          clear hKx Kx
          try simp only [Act.put, List.getElem_toArray, List.getElem_cons_zero, List.getElem_cons_succ, List.setIfInBounds_toArray, List.set_cons_zero, List.set_cons_succ]
          obtain ⟨X2, hX2⟩ : ∃ X2, X1.setCell ⟨w1.heap.size, 3, none⟩ (.string (orT T.region y.tr)) = X2 := ⟨_, rfl⟩
          rw [hX2]
          have HX2 := Lib.hid (show X2.heap[w1.heap.size]? = some (.cells #[.string y.tl, .slice be T.extl.length bec, .string (orT T.script y.ts), .string (orT T.region y.tr), .slice bv T.vars.length bvc, .slice bx T.exts.length bxc, .slice bp T.priv.length bpc, .string T.grand] 40 (0, 0)) by rw [← hX2]; exact cells_setT HX1.out _)
          have HG2 := Lib.hid (show World.grownBy U X2 (some w1.heap.size) by rw [← hX2]; exact grown_setT HG1.out 3 _)
          clear hX2 g1 f1
          refine wpAnyZ_done (by kernel_rfl) ?_ _
          refine hfin _ _ ?_
          clear hfin hKp KK
          have HZ2 := Lib.hid ((HG2.out.block _ (by have := lt_blockT HZ3.out; have := HHE.out.size; omega) (fun e => by have := Option.some.inj e; have := HN.out; omega)).trans ((HHE.out.block _ (lt_blockT HZ3.out)).trans HZ3.out))
          have HTN := Lib.hid ((((HT3.out.below HHE.out).grown HG2.out (.inr (Nat.le_refl _))).turn y.tl (orT T.script y.ts) (orT T.region y.tr)))
          have HB2 := Lib.hid ((HB3.out.trans (HHE.out.mono HB3.out.size)).grown HG2.out (by have := HB3.out.size; have := HHE.out.size; omega) (fun r e => by cases e; have := HN.out; omega))
          obtain ⟨t0, t1, t2, t3, t4, t5, t6, t7⟩ := tag_cells HX2.out
          go_wp2_with (refine wpList_store_row rfl _ _ _ rfl _ _ rfl rfl _ _ HZ2.out sizeTagT rfl (by simp [Value.oneCell']) ?_)
          refine bodyPost_ret (results_cell_tmpT rfl _ _ (w.heap.size + 2) 40 #[.string y.tl, .slice be T.extl.length bec, .string (orT T.script y.ts), .string (orT T.region y.tr), .slice bv T.vars.length bvc, .slice bx T.exts.length bxc, .slice bp T.priv.length bpc, .string T.grand] (0, 0) _ (.bool true) rfl rfl (setRow_heap _ _ _ _ _ _ HZ2.out) Try.underlying40 rfl sizeTagT) rfl ?_
          have HE := setRow_grownT X2 (w.heap.size + 2) #[.string y.tl, .slice be T.extl.length bec, .string (orT T.script y.ts), .string (orT T.region y.tr), .slice bv T.vars.length bvc, .slice bx T.exts.length bxc, .slice bp T.priv.length bpc, .string T.grand]
          rw [HMX.out.1, HMX.out.2]
          exact ⟨_, rfl, (HTN.out.grown HE (.inl HN.out.2)).is, HB2.out.grown HE (by have := lt_blockT HZ2.out; omega) (fun r e => by cases e; omega)⟩
        · rw [if_pos (by kernel_rfl)]
          go_simp
          obtain ⟨U, hU⟩ : ∃ x, World.alloc V (.cells #[.string T.region, .string y.tr] 9) = x := ⟨_, rfl⟩
          have qb := cells2T (show U.heap[(World.heap V).size]? = some (.cells #[.string T.region, .string y.tr] 9 (0, 0)) by rw [← hU]; exact World.alloc_heap_new _ _)
          have hHU : Below W3.heap.size W3 U := by rw [← hU]; exact hHeld.alloc hHeld.size _
          have hNB : Below (World.heap V).size V U := by rw [← hU]; exact (Below.refl _ _).alloc (Nat.le_refl _) _
          rw [hU]
          clear hU
          refine hKx.out _ _ hHU (fun hHeld => ?_)
          clear hKx Kx
          try simp only [Act.put, List.getElem_toArray, List.getElem_cons_zero, List.getElem_cons_succ, List.setIfInBounds_toArray, List.set_cons_zero, List.set_cons_succ]
          have qa := And.intro ((hNB.cell (lt_cellT qa.1)).trans qa.1) ((hNB.cell (lt_cellT qa.2)).trans qa.2)
          refine wpAnyZ_ready (rs := [5]) (by kernel_rfl) (by simp) ?_
          refine AllReadyZ.cons rfl (fun Kx hKx => ?_) AllReadyZ.nil
          rw [if_pos (by kernel_rfl)]
          go_simp
          refine (orT_any T.script y.ts _ _ qa.1 qa.2).mono ?_
          rintro e w4 ⟨rfl, hw4⟩
          obtain rfl : U = w4 := hw4.symm
          refine hKx.out _ _ hHeld (fun hHeld => ?_)
          clear hKx Kx
          try simp only [Act.put, List.getElem_toArray, List.getElem_cons_zero, List.getElem_cons_succ, List.setIfInBounds_toArray, List.set_cons_zero, List.set_cons_succ]
          refine wpAnyZ_take (i := 12) (v := .pointer (some ⟨w1.heap.size, 2, none⟩)) rfl (by kernel_rfl) (by kernel_rfl) (by kernel_rfl) (by kernel_rfl) (by kernel_rfl) (by kernel_rfl) (fun c a w h => hKp c a _ _ w h) (Or.inl ⟨by kernel_rfl, fun w hSw => by go_simp⟩) hHeld ?_
          simp only [Act.put, List.getElem_toArray, List.getElem_cons_zero, List.getElem_cons_succ, List.setIfInBounds_toArray, List.set_cons_zero, List.set_cons_succ]
          refine wpAnyZ_ready (rs := [11]) (by kernel_rfl) (by simp) ?_
          refine AllReadyZ.cons rfl (fun Kx hKx => ?_) AllReadyZ.nil
          rw [if_pos (by kernel_rfl)]
          go_simp
          refine (orT_any T.region y.tr _ _ qb.1 qb.2).mono ?_
          rintro e w4 ⟨rfl, hw4⟩
          obtain rfl : U = w4 := hw4.symm
          refine hKx.out _ _ hHeld (fun hHeld => ?_)
          clear hKx Kx
          try simp only [Act.put, List.getElem_toArray, List.getElem_cons_zero, List.getElem_cons_succ, List.setIfInBounds_toArray, List.set_cons_zero, List.set_cons_succ]
          have HHE := Lib.hid hHeld
          have HF7 := Lib.hid ((HHE.out.block _ (lt_blockT HF3.out)).trans HF3.out)
          have g1 := cell_rowT 2 HF7.out rfl
          have f1 := frozenT 2 HF7.out
          refine wpAnyZ_ready (rs := [13]) (by kernel_rfl) (by simp) ?_
          refine AllReadyZ.late rfl (by decide) (fun Kx hKx => ?_) AllReadyZ.nil
          rw [if_pos (by kernel_rfl)]
          go_simp
          refine hKx.out _ _ ?_
          clear hKx Kx
          try simp only [Act.put, List.getElem_toArray, List.getElem_cons_zero, List.getElem_cons_succ, List.setIfInBounds_toArray, List.set_cons_zero, List.set_cons_succ]
          obtain ⟨X1, hX1⟩ : ∃ X1, World.setCell U ⟨w1.heap.size, 2, none⟩ (.string (orT T.script y.ts)) = X1 := ⟨_, rfl⟩
          rw [hX1]
          have HX1 := Lib.hid (show X1.heap[w1.heap.size]? = some (.cells #[.string y.tl, .slice be T.extl.length bec, .string (orT T.script y.ts), .string T.region, .slice bv T.vars.length bvc, .slice bx T.exts.length bxc, .slice bp T.priv.length bpc, .string T.grand] 40 (0, 0)) by rw [← hX1]; exact cells_setT HF7.out _)
          have HG1 := Lib.hid (show World.grownBy U X1 (some w1.heap.size) by rw [← hX1]; exact grown_setT (World.grownBy.refl U (some w1.heap.size)) 2 _)
          clear hX1 g1 f1
          refine wpAnyZ_ready (rs := [14]) (by kernel_rfl) (by simp) ?_
          refine AllReadyZ.late rfl (by decide) (fun Kx hKx => ?_) AllReadyZ.nil
          rw [if_pos (by kernel_rfl)]
          go_simp
          refine hKx.out _ _ ?_
          clear hKx Kx
          try simp only [Act.put, List.getElem_toArray, List.getElem_cons_zero, List.getElem_cons_succ, List.setIfInBounds_toArray, List.set_cons_zero, List.set_cons_succ]
          have g1 := cell_rowT 3 HX1.out rfl
          have f1 := frozenT 3 HX1.out
          refine wpAnyZ_ready (rs := [15]) (by kernel_rfl) (by simp) ?_
          refine AllReadyZ.late rfl (by decide) (fun Kx hKx => ?_) AllReadyZ.nil
          rw [if_pos (by kernel_rfl)]
          go_simp
          refine hKx.out _ _ ?_
          clear hKx Kx
          try simp only [Act.put, List.getElem_toArray, List.getElem_cons_zero, List.getElem_cons_succ, List.setIfInBounds_toArray, List.set_cons_zero, List.set_cons_succ]
          obtain ⟨X2, hX2⟩ : ∃ X2, X1.setCell ⟨w1.heap.size, 3, none⟩ (.string (orT T.region y.tr)) = X2 := ⟨_, rfl⟩
          rw [hX2]
          have HX2 := Lib.hid (show X2.heap[w1.heap.size]? = some (.cells #[.string y.tl, .slice be T.extl.length bec, .string (orT T.script y.ts), .string (orT T.region y.tr), .slice bv T.vars.length bvc, .slice bx T.exts.length bxc, .slice bp T.priv.length bpc, .string T.grand] 40 (0, 0)) by rw [← hX2]; exact cells_setT HX1.out _)
          have HG2 := Lib.hid (show World.grownBy U X2 (some w1.heap.size) by rw [← hX2]; exact grown_setT HG1.out 3 _)
          clear hX2 g1 f1
          refine wpAnyZ_done (by kernel_rfl) ?_ _
          refine hfin _ _ ?_
          clear hfin hKp KK
          have HZ2 := Lib.hid ((HG2.out.block _ (by have := lt_blockT HZ3.out; have := HHE.out.size; omega) (fun e => by have := Option.some.inj e; have := HN.out; omega)).trans ((HHE.out.block _ (lt_blockT HZ3.out)).trans HZ3.out))
          have HTN := Lib.hid ((((HT3.out.below HHE.out).grown HG2.out (.inr (Nat.le_refl _))).turn y.tl (orT T.script y.ts) (orT T.region y.tr)))
          have HB2 := Lib.hid ((HB3.out.trans (HHE.out.mono HB3.out.size)).grown HG2.out (by have := HB3.out.size; have := HHE.out.size; omega) (fun r e => by cases e; have := HN.out; omega))
          obtain ⟨t0, t1, t2, t3, t4, t5, t6, t7⟩ := tag_cells HX2.out
          go_wp2_with (refine wpList_store_row rfl _ _ _ rfl _ _ rfl rfl _ _ HZ2.out sizeTagT rfl (by simp [Value.oneCell']) ?_)
          refine bodyPost_ret (results_cell_tmpT rfl _ _ (w.heap.size + 2) 40 #[.string y.tl, .slice be T.extl.length bec, .string (orT T.script y.ts), .string (orT T.region y.tr), .slice bv T.vars.length bvc, .slice bx T.exts.length bxc, .slice bp T.priv.length bpc, .string T.grand] (0, 0) _ (.bool true) rfl rfl (setRow_heap _ _ _ _ _ _ HZ2.out) Try.underlying40 rfl sizeTagT) rfl ?_
          have HE := setRow_grownT X2 (w.heap.size + 2) #[.string y.tl, .slice be T.extl.length bec, .string (orT T.script y.ts), .string (orT T.region y.tr), .slice bv T.vars.length bvc, .slice bx T.exts.length bxc, .slice bp T.priv.length bpc, .string T.grand]
          rw [HMX.out.1, HMX.out.2]
          exact ⟨_, rfl, (HTN.out.grown HE (.inl HN.out.2)).is, HB2.out.grown HE (by have := lt_blockT HZ2.out; omega) (fun r e => by cases e; omega)⟩
      · rw [if_pos (by kernel_rfl)]
        go_simp
        obtain ⟨V, hV⟩ : ∃ V, (World.alloc W3 (.cells #[.string T.region, .string y.tr] 9)).drew = V := ⟨_, rfl⟩
        have qb := cells2T (show V.heap[W3.heap.size]? = some (.cells #[.string T.region, .string y.tr] 9 (0, 0)) by rw [← hV]; exact World.alloc_heap_new W3 _)
        have hHV : Below W3.heap.size W3 V := by rw [← hV]; exact Below.drew ((Below.refl _ W3).alloc (Nat.le_refl _) _)
        rw [hV]
        clear hV
        refine hKx.out _ _ hHV (fun hHeld => ?_)
        clear hKx Kx
        try simp only [Act.put, List.getElem_toArray, List.getElem_cons_zero, List.getElem_cons_succ, List.setIfInBounds_toArray, List.set_cons_zero, List.set_cons_succ]
        refine wpAnyZ_ready (rs := [4]) (by kernel_rfl) (by simp) ?_
        refine AllReadyZ.cons rfl (fun Kx hKx => ?_) AllReadyZ.nil
        rw [if_pos (by kernel_rfl)]
        go_simp
        obtain ⟨U, hU⟩ : ∃ x, World.alloc V (.cells #[.string T.script, .string y.ts] 9) = x := ⟨_, rfl⟩
        have qa := cells2T (show U.heap[(World.heap V).size]? = some (.cells #[.string T.script, .string y.ts] 9 (0, 0)) by rw [← hU]; exact World.alloc_heap_new _ _)
        have hHU : Below W3.heap.size W3 U := by rw [← hU]; exact hHeld.alloc hHeld.size _
        have hNB : Below (World.heap V).size V U := by rw [← hU]; exact (Below.refl _ _).alloc (Nat.le_refl _) _
        rw [hU]
        clear hU
        refine hKx.out _ _ hHU (fun hHeld => ?_)
        clear hKx Kx
        try simp only [Act.put, List.getElem_toArray, List.getElem_cons_zero, List.getElem_cons_succ, List.setIfInBounds_toArray, List.set_cons_zero, List.set_cons_succ]
        have qb := And.intro ((hNB.cell (lt_cellT qb.1)).trans qb.1) ((hNB.cell (lt_cellT qb.2)).trans qb.2)
        refine wpAnyZ_ready (rs := [5]) (by kernel_rfl) (by simp) ?_
        refine AllReadyZ.cons rfl (fun Kx hKx => ?_) AllReadyZ.nil
        rw [if_pos (by kernel_rfl)]
        go_simp
        refine (orT_any T.script y.ts _ _ qa.1 qa.2).mono ?_
        rintro e w4 ⟨rfl, hw4⟩
        obtain rfl : U = w4 := hw4.symm
        refine hKx.out _ _ hHeld (fun hHeld => ?_)
        clear hKx Kx
        try simp only [Act.put, List.getElem_toArray, List.getElem_cons_zero, List.getElem_cons_succ, List.setIfInBounds_toArray, List.set_cons_zero, List.set_cons_succ]
        refine wpAnyZ_take (i := 12) (v := .pointer (some ⟨w1.heap.size, 2, none⟩)) rfl (by kernel_rfl) (by kernel_rfl) (by kernel_rfl) (by kernel_rfl) (by kernel_rfl) (by kernel_rfl) (fun c a w h => hKp c a _ _ w h) (Or.inl ⟨by kernel_rfl, fun w hSw => by go_simp⟩) hHeld ?_
        simp only [Act.put, List.getElem_toArray, List.getElem_cons_zero, List.getElem_cons_succ, List.setIfInBounds_toArray, List.set_cons_zero, List.set_cons_succ]
        refine wpAnyZ_ready (rs := [11]) (by kernel_rfl) (by simp) ?_
        refine AllReadyZ.cons rfl (fun Kx hKx => ?_) AllReadyZ.nil
        rw [if_pos (by kernel_rfl)]
        go_simp
        refine (orT_any T.region y.tr _ _ qb.1 qb.2).mono ?_
        rintro e w4 ⟨rfl, hw4⟩
        obtain rfl : U = w4 := hw4.symm
        refine hKx.out _ _ hHeld (fun hHeld => ?_)
        clear hKx Kx
        try simp only [Act.put, List.getElem_toArray, List.getElem_cons_zero, List.getElem_cons_succ, List.setIfInBounds_toArray, List.set_cons_zero, List.set_cons_succ]
        have HHE := Lib.hid hHeld
        have HF7 := Lib.hid ((HHE.out.block _ (lt_blockT HF3.out)).trans HF3.out)
        have g1 := cell_rowT 2 HF7.out rfl
        have f1 := frozenT 2 HF7.out
        refine wpAnyZ_ready (rs := [13]) (by kernel_rfl) (by simp) ?_
        refine AllReadyZ.late rfl (by decide) (fun Kx hKx => ?_) AllReadyZ.nil
        rw [if_pos (by kernel_rfl)]
        go_simp
        refine hKx.out _ _ ?_
        clear hKx Kx
        try simp only [Act.put, List.getElem_toArray, List.getElem_cons_zero, List.getElem_cons_succ, List.setIfInBounds_toArray, List.set_cons_zero, List.set_cons_succ]
        obtain ⟨X1, hX1⟩ : ∃ X1, World.setCell U ⟨w1.heap.size, 2, none⟩ (.string (orT T.script y.ts)) = X1 := ⟨_, rfl⟩
        rw [hX1]
        have HX1 := Lib.hid (show X1.heap[w1.heap.size]? = some (.cells #[.string y.tl, .slice be T.extl.length bec, .string (orT T.script y.ts), .string T.region, .slice bv T.vars.length bvc, .slice bx T.exts.length bxc, .slice bp T.priv.length bpc, .string T.grand] 40 (0, 0)) by rw [← hX1]; exact cells_setT HF7.out _)
        have HG1 := Lib.hid (show World.grownBy U X1 (some w1.heap.size) by rw [← hX1]; exact grown_setT (World.grownBy.refl U (some w1.heap.size)) 2 _)
        clear hX1 g1 f1
        refine wpAnyZ_ready (rs := [14]) (by kernel_rfl) (by simp) ?_
        refine AllReadyZ.late rfl (by decide) (fun Kx hKx => ?_) AllReadyZ.nil
        rw [if_pos (by kernel_rfl)]
        go_simp
        refine hKx.out _ _ ?_
        clear hKx Kx
        try simp only [Act.put, List.getElem_toArray, List.getElem_cons_zero, List.getElem_cons_succ, List.setIfInBounds_toArray, List.set_cons_zero, List.set_cons_succ]
        have g1 := cell_rowT 3 HX1.out rfl
        have f1 := frozenT 3 HX1.out
        refine wpAnyZ_ready (rs := [15]) (by kernel_rfl) (by simp) ?_
        refine AllReadyZ.late rfl (by decide) (fun Kx hKx => ?_) AllReadyZ.nil
        rw [if_pos (by kernel_rfl)]
        go_simp
        refine hKx.out _ _ ?_
        clear hKx Kx
        try simp only [Act.put, List.getElem_toArray, List.getElem_cons_zero, List.getElem_cons_succ, List.setIfInBounds_toArray, List.set_cons_zero, List.set_cons_succ]
        obtain ⟨X2, hX2⟩ : ∃ X2, X1.setCell ⟨w1.heap.size, 3, none⟩ (.string (orT T.region y.tr)) = X2 := ⟨_, rfl⟩
        rw [hX2]
        have HX2 := Lib.hid (show X2.heap[w1.heap.size]? = some (.cells #[.string y.tl, .slice be T.extl.length bec, .string (orT T.script y.ts), .string (orT T.region y.tr), .slice bv T.vars.length bvc, .slice bx T.exts.length bxc, .slice bp T.priv.length bpc, .string T.grand] 40 (0, 0)) by rw [← hX2]; exact cells_setT HX1.out _)
        have HG2 := Lib.hid (show World.grownBy U X2 (some w1.heap.size) by rw [← hX2]; exact grown_setT HG1.out 3 _)
        clear hX2 g1 f1
        refine wpAnyZ_done (by kernel_rfl) ?_ _
        refine hfin _ _ ?_
        clear hfin hKp KK
        have HZ2 := Lib.hid ((HG2.out.block _ (by have := lt_blockT HZ3.out; have := HHE.out.size; omega) (fun e => by have := Option.some.inj e; have := HN.out; omega)).trans ((HHE.out.block _ (lt_blockT HZ3.out)).trans HZ3.out))
        have HTN := Lib.hid ((((HT3.out.below HHE.out).grown HG2.out (.inr (Nat.le_refl _))).turn y.tl (orT T.script y.ts) (orT T.region y.tr)))
        have HB2 := Lib.hid ((HB3.out.trans (HHE.out.mono HB3.out.size)).grown HG2.out (by have := HB3.out.size; have := HHE.out.size; omega) (fun r e => by cases e; have := HN.out; omega))
        obtain ⟨t0, t1, t2, t3, t4, t5, t6, t7⟩ := tag_cells HX2.out
        go_wp2_with (refine wpList_store_row rfl _ _ _ rfl _ _ rfl rfl _ _ HZ2.out sizeTagT rfl (by simp [Value.oneCell']) ?_)
        refine bodyPost_ret (results_cell_tmpT rfl _ _ (w.heap.size + 2) 40 #[.string y.tl, .slice be T.extl.length bec, .string (orT T.script y.ts), .string (orT T.region y.tr), .slice bv T.vars.length bvc, .slice bx T.exts.length bxc, .slice bp T.priv.length bpc, .string T.grand] (0, 0) _ (.bool true) rfl rfl (setRow_heap _ _ _ _ _ _ HZ2.out) Try.underlying40 rfl sizeTagT) rfl ?_
        have HE := setRow_grownT X2 (w.heap.size + 2) #[.string y.tl, .slice be T.extl.length bec, .string (orT T.script y.ts), .string (orT T.region y.tr), .slice bv T.vars.length bvc, .slice bx T.exts.length bxc, .slice bp T.priv.length bpc, .string T.grand]
        rw [HMX.out.1, HMX.out.2]
        exact ⟨_, rfl, (HTN.out.grown HE (.inl HN.out.2)).is, HB2.out.grown HE (by have := lt_blockT HZ2.out; omega) (fun r e => by cases e; omega)⟩
    · rw [decide_eq_false hlg] at hu
      have HMX := Lib.hid (show (maxT L T).1 = { T with lang := T.lang, script := orT T.script y.ts, region := orT T.region y.tr } ∧ (maxT L T).2 = true by
        rw [HMS.out, HY.out]
        refine ⟨?_, rfl⟩
        unfold fillT
        rw [if_neg hlg])
      have l0 := cell_rowT 0 HF2.out rfl
      clear hlg
      go_wp2_with fail
      obtain ⟨W3, rfl⟩ : ∃ W3, W3 = W2 := ⟨_, rfl⟩
      have HF3 := HF2
      have HZ3 := HR2
      have HY3 := HY7
      have HT3 := HT2
      have HB3 := HBW2
      have HC7 := Lib.hid (fun (w' : World) (hb : Below W3.heap.size W3 w') => show w'.cell? ⟨w1.heap.size, 2, none⟩ = some (.string T.script) ∧ w'.cell? ⟨b7, 4, none⟩ = some (.string y.ts) ∧ w'.cell? ⟨w1.heap.size, 3, none⟩ = some (.string T.region) ∧ w'.cell? ⟨b7, 5, none⟩ = some (.string y.tr) from
        ⟨cell_rowT 2 ((hb.block _ (lt_blockT HF3.out)).trans HF3.out) rfl, cell_rowT 4 ((hb.block _ (lt_blockT HY3.out)).trans HY3.out) rfl, cell_rowT 3 ((hb.block _ (lt_blockT HF3.out)).trans HF3.out) rfl, cell_rowT 5 ((hb.block _ (lt_blockT HY3.out)).trans HY3.out) rfl⟩)
      clear l0 hu
      refine wp_region_late_drew (S := fun w' => Below W3.heap.size W3 w') (k := 13) (by kernel_rfl) (Below.drew (Below.refl W3.heap.size W3)) (fun hHeld => ?_)
      refine late_shell (fun _ _ d _ _ h => by cases d <;> exact h) ?_
      intro KK hKp hfin
      refine wpAnyZ_take (i := 0) (v := .pointer (some ⟨w1.heap.size, 2, none⟩)) rfl (by kernel_rfl) (by kernel_rfl) (by kernel_rfl) (by kernel_rfl) (by kernel_rfl) (by kernel_rfl) (fun c a w h => hKp c a _ _ w h) (Or.inl ⟨by kernel_rfl, fun w hSw => by obtain ⟨k0, k1, k2, k3⟩ := HC7.out w hSw; go_simp⟩) hHeld ?_
      simp only [Act.put, List.getElem_toArray, List.getElem_cons_zero, List.setIfInBounds_toArray, List.set_cons_zero, List.set_cons_succ]
      refine wpAnyZ_take (i := 1) (v := .string T.script) rfl (by kernel_rfl) (by kernel_rfl) (by kernel_rfl) (by kernel_rfl) (by kernel_rfl) (by kernel_rfl) (fun c a w h => hKp c a _ _ w h) (Or.inl ⟨by kernel_rfl, fun w hSw => by obtain ⟨k0, k1, k2, k3⟩ := HC7.out w hSw; go_simp⟩) hHeld ?_
      simp only [Act.put, List.getElem_toArray, List.getElem_cons_zero, List.getElem_cons_succ, List.setIfInBounds_toArray, List.set_cons_zero, List.set_cons_succ]
      refine wpAnyZ_take (i := 2) (v := .pointer (some ⟨b7, 4, none⟩)) rfl (by kernel_rfl) (by kernel_rfl) (by kernel_rfl) (by kernel_rfl) (by kernel_rfl) (by kernel_rfl) (fun c a w h => hKp c a _ _ w h) (Or.inl ⟨by kernel_rfl, fun w hSw => by obtain ⟨k0, k1, k2, k3⟩ := HC7.out w hSw; go_simp⟩) hHeld ?_
      simp only [Act.put, List.getElem_toArray, List.getElem_cons_zero, List.getElem_cons_succ, List.setIfInBounds_toArray, List.set_cons_zero, List.set_cons_succ]
      refine wpAnyZ_take (i := 3) (v := .string y.ts) rfl (by kernel_rfl) (by kernel_rfl) (by kernel_rfl) (by kernel_rfl) (by kernel_rfl) (by kernel_rfl) (fun c a w h => hKp c a _ _ w h) (Or.inl ⟨by kernel_rfl, fun w hSw => by obtain ⟨k0, k1, k2, k3⟩ := HC7.out w hSw; go_simp⟩) hHeld ?_
      simp only [Act.put, List.getElem_toArray, List.getElem_cons_zero, List.getElem_cons_succ, List.setIfInBounds_toArray, List.set_cons_zero, List.set_cons_succ]
      refine wpAnyZ_take (i := 6) (v := .pointer (some ⟨w1.heap.size, 3, none⟩)) rfl (by kernel_rfl) (by kernel_rfl) (by kernel_rfl) (by kernel_rfl) (by kernel_rfl) (by kernel_rfl) (fun c a w h => hKp c a _ _ w h) (Or.inl ⟨by kernel_rfl, fun w hSw => by obtain ⟨k0, k1, k2, k3⟩ := HC7.out w hSw; go_simp⟩) hHeld ?_
      simp only [Act.put, List.getElem_toArray, List.getElem_cons_zero, List.getElem_cons_succ, List.setIfInBounds_toArray, List.set_cons_zero, List.set_cons_succ]
      refine wpAnyZ_take (i := 7) (v := .string T.region) rfl (by kernel_rfl) (by kernel_rfl) (by kernel_rfl) (by kernel_rfl) (by kernel_rfl) (by kernel_rfl) (fun c a w h => hKp c a _ _ w h) (Or.inl ⟨by kernel_rfl, fun w hSw => by obtain ⟨k0, k1, k2, k3⟩ := HC7.out w hSw; go_simp⟩) hHeld ?_
      simp only [Act.put, List.getElem_toArray, List.getElem_cons_zero, List.getElem_cons_succ, List.setIfInBounds_toArray, List.set_cons_zero, List.set_cons_succ]
      refine wpAnyZ_take (i := 8) (v := .pointer (some ⟨b7, 5, none⟩)) rfl (by kernel_rfl) (by kernel_rfl) (by kernel_rfl) (by kernel_rfl) (by kernel_rfl) (by kernel_rfl) (fun c a w h => hKp c a _ _ w h) (Or.inl ⟨by kernel_rfl, fun w hSw => by obtain ⟨k0, k1, k2, k3⟩ := HC7.out w hSw; go_simp⟩) hHeld ?_
      simp only [Act.put, List.getElem_toArray, List.getElem_cons_zero, List.getElem_cons_succ, List.setIfInBounds_toArray, List.set_cons_zero, List.set_cons_succ]
      refine wpAnyZ_take (i := 9) (v := .string y.tr) rfl (by kernel_rfl) (by kernel_rfl) (by kernel_rfl) (by kernel_rfl) (by kernel_rfl) (by kernel_rfl) (fun c a w h => hKp c a _ _ w h) (Or.inl ⟨by kernel_rfl, fun w hSw => by obtain ⟨k0, k1, k2, k3⟩ := HC7.out w hSw; go_simp⟩) hHeld ?_
      simp only [Act.put, List.getElem_toArray, List.getElem_cons_zero, List.getElem_cons_succ, List.setIfInBounds_toArray, List.set_cons_zero, List.set_cons_succ]
      refine wpAnyZ_ready (rs := [4, 10]) (by kernel_rfl) (by simp) ?_
      refine AllReadyZ.cons rfl (fun Kx hKx => ?_) (AllReadyZ.cons rfl (fun Kx hKx => ?_) AllReadyZ.nil)
      · rw [if_pos (by kernel_rfl)]
        go_simp
        obtain ⟨V, hV⟩ : ∃ V, (World.alloc W3 (.cells #[.string T.script, .string y.ts] 9)).drew = V := ⟨_, rfl⟩
        have qa := cells2T (show V.heap[W3.heap.size]? = some (.cells #[.string T.script, .string y.ts] 9 (0, 0)) by rw [← hV]; exact World.alloc_heap_new W3 _)
        have hHV : Below W3.heap.size W3 V := by rw [← hV]; exact Below.drew ((Below.refl _ W3).alloc (Nat.le_refl _) _)
        rw [hV]
        clear hV
        refine hKx.out _ _ hHV (fun hHeld => ?_)
        clear hKx Kx
        try simp only [Act.put, List.getElem_toArray, List.getElem_cons_zero, List.getElem_cons_succ, List.setIfInBounds_toArray, List.set_cons_zero, List.set_cons_succ]
        refine wpAnyZ_ready (rs := [5, 10]) (by kernel_rfl) (by simp) ?_
        refine AllReadyZ.cons rfl (fun Kx hKx => ?_) (AllReadyZ.cons rfl (fun Kx hKx => ?_) AllReadyZ.nil)
        · rw [if_pos (by kernel_rfl)]
          go_simp
          refine (orT_any T.script y.ts _ _ qa.1 qa.2).mono ?_
          rintro e w4 ⟨rfl, hw4⟩
          obtain rfl : V = w4 := hw4.symm
          refine hKx.out _ _ hHeld (fun hHeld => ?_)
          clear hKx Kx
          try simp only [Act.put, List.getElem_toArray, List.getElem_cons_zero, List.getElem_cons_succ, List.setIfInBounds_toArray, List.set_cons_zero, List.set_cons_succ]
          refine wpAnyZ_take (i := 12) (v := .pointer (some ⟨w1.heap.size, 2, none⟩)) rfl (by kernel_rfl) (by kernel_rfl) (by kernel_rfl) (by kernel_rfl) (by kernel_rfl) (by kernel_rfl) (fun c a w h => hKp c a _ _ w h) (Or.inl ⟨by kernel_rfl, fun w hSw => by go_simp⟩) hHeld ?_
          simp only [Act.put, List.getElem_toArray, List.getElem_cons_zero, List.getElem_cons_succ, List.setIfInBounds_toArray, List.set_cons_zero, List.set_cons_succ]
          refine wpAnyZ_ready (rs := [10]) (by kernel_rfl) (by simp) ?_
          refine AllReadyZ.cons rfl (fun Kx hKx => ?_) AllReadyZ.nil
          rw [if_pos (by kernel_rfl)]
          go_simp
          obtain ⟨U, hU⟩ : ∃ x, World.alloc V (.cells #[.string T.region, .string y.tr] 9) = x := ⟨_, rfl⟩
          have qb := cells2T (show U.heap[(World.heap V).size]? = some (.cells #[.string T.region, .string y.tr] 9 (0, 0)) by rw [← hU]; exact World.alloc_heap_new _ _)
          have hHU : Below W3.heap.size W3 U := by rw [← hU]; exact hHeld.alloc hHeld.size _
          have hNB : Below (World.heap V).size V U := by rw [← hU]; exact (Below.refl _ _).alloc (Nat.le_refl _) _
          rw [hU]
          clear hU
          refine hKx.out _ _ hHU (fun hHeld => ?_)
          clear hKx Kx
          try simp only [Act.put, List.getElem_toArray, List.getElem_cons_zero, List.getElem_cons_succ, List.setIfInBounds_toArray, List.set_cons_zero, List.set_cons_succ]
          refine wpAnyZ_ready (rs := [11]) (by kernel_rfl) (by simp) ?_
          refine AllReadyZ.cons rfl (fun Kx hKx => ?_) AllReadyZ.nil
          rw [if_pos (by kernel_rfl)]
          go_simp
          refine (orT_any T.region y.tr _ _ qb.1 qb.2).mono ?_
          rintro e w4 ⟨rfl, hw4⟩
          obtain rfl : U = w4 := hw4.symm
          refine hKx.out _ _ hHeld (fun hHeld => ?_)
          clear hKx Kx
          try simp only [Act.put, List.getElem_toArray, List.getElem_cons_zero, List.getElem_cons_succ, List.setIfInBounds_toArray, List.set_cons_zero, List.set_cons_succ]
          have HHE := Lib.hid hHeld
          have HF7 := Lib.hid ((HHE.out.block _ (lt_blockT HF3.out)).trans HF3.out)
          have g1 := cell_rowT 2 HF7.out rfl
          have f1 := frozenT 2 HF7.out
          refine wpAnyZ_ready (rs := [13]) (by kernel_rfl) (by simp) ?_
          refine AllReadyZ.late rfl (by decide) (fun Kx hKx => ?_) AllReadyZ.nil
          rw [if_pos (by kernel_rfl)]
          go_simp
          refine hKx.out _ _ ?_
          clear hKx Kx
          try simp only [Act.put, List.getElem_toArray, List.getElem_cons_zero, List.getElem_cons_succ, List.setIfInBounds_toArray, List.set_cons_zero, List.set_cons_succ]
          obtain ⟨X1, hX1⟩ : ∃ X1, World.setCell U ⟨w1.heap.size, 2, none⟩ (.string (orT T.script y.ts)) = X1 := ⟨_, rfl⟩
          rw [hX1]
          have HX1 := Lib.hid (show X1.heap[w1.heap.size]? = some (.cells #[.string T.lang, .slice be T.extl.length bec, .string (orT T.script y.ts), .string T.region, .slice bv T.vars.length bvc, .slice bx T.exts.length bxc, .slice bp T.priv.length bpc, .string T.grand] 40 (0, 0)) by rw [← hX1]; exact cells_setT HF7.out _)
          have HG1 := Lib.hid (show World.grownBy U X1 (some w1.heap.size) by rw [← hX1]; exact grown_setT (World.grownBy.refl U (some w1.heap.size)) 2 _)
          clear hX1 g1 f1
          refine wpAnyZ_ready (rs := [14]) (by kernel_rfl) (by simp) ?_
          refine AllReadyZ.late rfl (by decide) (fun Kx hKx => ?_) AllReadyZ.nil
          rw [if_pos (by kernel_rfl)]
          go_simp
          refine hKx.out _ _ ?_
          clear hKx Kx
          try simp only [Act.put, List.getElem_toArray, List.getElem_cons_zero, List.getElem_cons_succ, List.setIfInBounds_toArray, List.set_cons_zero, List.set_cons_succ]
          have g1 := cell_rowT 3 HX1.out rfl
          have f1 := frozenT 3 HX1.out
          refine wpAnyZ_ready (rs := [15]) (by kernel_rfl) (by simp) ?_
          refine AllReadyZ.late rfl (by decide) (fun Kx hKx => ?_) AllReadyZ.nil
          rw [if_pos (by kernel_rfl)]
          go_simp
          refine hKx.out _ _ ?_
          clear hKx Kx
          try simp only [Act.put, List.getElem_toArray, List.getElem_cons_zero, List.getElem_cons_succ, List.setIfInBounds_toArray, List.set_cons_zero, List.set_cons_succ]
          obtain ⟨X2, hX2⟩ : ∃ X2, X1.setCell ⟨w1.heap.size, 3, none⟩ (.string (orT T.region y.tr)) = X2 := ⟨_, rfl⟩
          rw [hX2]
          have HX2 := Lib.hid (show X2.heap[w1.heap.size]? = some (.cells #[.string T.lang, .slice be T.extl.length bec, .string (orT T.script y.ts), .string (orT T.region y.tr), .slice bv T.vars.length bvc, .slice bx T.exts.length bxc, .slice bp T.priv.length bpc, .string T.grand] 40 (0, 0)) by rw [← hX2]; exact cells_setT HX1.out _)
          have HG2 := Lib.hid (show World.grownBy U X2 (some w1.heap.size) by rw [← hX2]; exact grown_setT HG1.out 3 _)
          clear hX2 g1 f1
          refine wpAnyZ_done (by kernel_rfl) ?_ _
          refine hfin _ _ ?_
          clear hfin hKp KK
          have HZ2 := Lib.hid ((HG2.out.block _ (by have := lt_blockT HZ3.out; have := HHE.out.size; omega) (fun e => by have := Option.some.inj e; have := HN.out; omega)).trans ((HHE.out.block _ (lt_blockT HZ3.out)).trans HZ3.out))
          have HTN := Lib.hid ((((HT3.out.below HHE.out).grown HG2.out (.inr (Nat.le_refl _))).turn T.lang (orT T.script y.ts) (orT T.region y.tr)))
          have HB2 := Lib.hid ((HB3.out.trans (HHE.out.mono HB3.out.size)).grown HG2.out (by have := HB3.out.size; have := HHE.out.size; omega) (fun r e => by cases e; have := HN.out; omega))
          obtain ⟨t0, t1, t2, t3, t4, t5, t6, t7⟩ := tag_cells HX2.out
          go_wp2_with (refine wpList_store_row rfl _ _ _ rfl _ _ rfl rfl _ _ HZ2.out sizeTagT rfl (by simp [Value.oneCell']) ?_)
          refine bodyPost_ret (results_cell_tmpT rfl _ _ (w.heap.size + 2) 40 #[.string T.lang, .slice be T.extl.length bec, .string (orT T.script y.ts), .string (orT T.region y.tr), .slice bv T.vars.length bvc, .slice bx T.exts.length bxc, .slice bp T.priv.length bpc, .string T.grand] (0, 0) _ (.bool true) rfl rfl (setRow_heap _ _ _ _ _ _ HZ2.out) Try.underlying40 rfl sizeTagT) rfl ?_
          have HE := setRow_grownT X2 (w.heap.size + 2) #[.string T.lang, .slice be T.extl.length bec, .string (orT T.script y.ts), .string (orT T.region y.tr), .slice bv T.vars.length bvc, .slice bx T.exts.length bxc, .slice bp T.priv.length bpc, .string T.grand]
          rw [HMX.out.1, HMX.out.2]
          exact ⟨_, rfl, (HTN.out.grown HE (.inl HN.out.2)).is, HB2.out.grown HE (by have := lt_blockT HZ2.out; omega) (fun r e => by cases e; omega)⟩
        · rw [if_pos (by kernel_rfl)]
          go_simp
          obtain ⟨U, hU⟩ : ∃ x, World.alloc V (.cells #[.string T.region, .string y.tr] 9) = x := ⟨_, rfl⟩
          have qb := cells2T (show U.heap[(World.heap V).size]? = some (.cells #[.string T.region, .string y.tr] 9 (0, 0)) by rw [← hU]; exact World.alloc_heap_new _ _)
          have hHU : Below W3.heap.size W3 U := by rw [← hU]; exact hHeld.alloc hHeld.size _
          have hNB : Below (World.heap V).size V U := by rw [← hU]; exact (Below.refl _ _).alloc (Nat.le_refl _) _
          rw [hU]
          clear hU
          refine hKx.out _ _ hHU (fun hHeld => ?_)
          clear hKx Kx
          try simp only [Act.put, List.getElem_toArray, List.getElem_cons_zero, List.getElem_cons_succ, List.setIfInBounds_toArray, List.set_cons_zero, List.set_cons_succ]
          have qa := And.intro ((hNB.cell (lt_cellT qa.1)).trans qa.1) ((hNB.cell (lt_cellT qa.2)).trans qa.2)
          refine wpAnyZ_ready (rs := [5]) (by kernel_rfl) (by simp) ?_
          refine AllReadyZ.cons rfl (fun Kx hKx => ?_) AllReadyZ.nil
          rw [if_pos (by kernel_rfl)]
          go_simp
          refine (orT_any T.script y.ts _ _ qa.1 qa.2).mono ?_
          rintro e w4 ⟨rfl, hw4⟩
          obtain rfl : U = w4 := hw4.symm
          refine hKx.out _ _ hHeld (fun hHeld => ?_)
          clear hKx Kx
          try simp only [Act.put, List.getElem_toArray, List.getElem_cons_zero, List.getElem_cons_succ, List.setIfInBounds_toArray, List.set_cons_zero, List.set_cons_succ]
          refine wpAnyZ_take (i := 12) (v := .pointer (some ⟨w1.heap.size, 2, none⟩)) rfl (by kernel_rfl) (by kernel_rfl) (by kernel_rfl) (by kernel_rfl) (by kernel_rfl) (by kernel_rfl) (fun c a w h => hKp c a _ _ w h) (Or.inl ⟨by kernel_rfl, fun w hSw => by go_simp⟩) hHeld ?_
          simp only [Act.put, List.getElem_toArray, List.getElem_cons_zero, List.getElem_cons_succ, List.setIfInBounds_toArray, List.set_cons_zero, List.set_cons_succ]
          refine wpAnyZ_ready (rs := [11]) (by kernel_rfl) (by simp) ?_
          refine AllReadyZ.cons rfl (fun Kx hKx => ?_) AllReadyZ.nil
          rw [if_pos (by kernel_rfl)]
          go_simp
          refine (orT_any T.region y.tr _ _ qb.1 qb.2).mono ?_
          rintro e w4 ⟨rfl, hw4⟩
          obtain rfl : U = w4 := hw4.symm
          refine hKx.out _ _ hHeld (fun hHeld => ?_)
          clear hKx Kx
          try simp only [Act.put, List.getElem_toArray, List.getElem_cons_zero, List.getElem_cons_succ, List.setIfInBounds_toArray, List.set_cons_zero, List.set_cons_succ]
          have HHE := Lib.hid hHeld
          have HF7 := Lib.hid ((HHE.out.block _ (lt_blockT HF3.out)).trans HF3.out)
          have g1 := cell_rowT 2 HF7.out rfl
          have f1 := frozenT 2 HF7.out
          refine wpAnyZ_ready (rs := [13]) (by kernel_rfl) (by simp) ?_
          refine AllReadyZ.late rfl (by decide) (fun Kx hKx => ?_) AllReadyZ.nil
          rw [if_pos (by kernel_rfl)]
          go_simp
          refine hKx.out _ _ ?_
          clear hKx Kx
          try simp only [Act.put, List.getElem_toArray, List.getElem_cons_zero, List.getElem_cons_succ, List.setIfInBounds_toArray, List.set_cons_zero, List.set_cons_succ]
          obtain ⟨X1, hX1⟩ : ∃ X1, World.setCell U ⟨w1.heap.size, 2, none⟩ (.string (orT T.script y.ts)) = X1 := ⟨_, rfl⟩
          rw [hX1]
          have HX1 := Lib.hid (show X1.heap[w1.heap.size]? = some (.cells #[.string T.lang, .slice be T.extl.length bec, .string (orT T.script y.ts), .string T.region, .slice bv T.vars.length bvc, .slice bx T.exts.length bxc, .slice bp T.priv.length bpc, .string T.grand] 40 (0, 0)) by rw [← hX1]; exact cells_setT HF7.out _)
          have HG1 := Lib.hid (show World.grownBy U X1 (some w1.heap.size) by rw [← hX1]; exact grown_setT (World.grownBy.refl U (some w1.heap.size)) 2 _)
          clear hX1 g1 f1
          refine wpAnyZ_ready (rs := [14]) (by kernel_rfl) (by simp) ?_
          refine AllReadyZ.late rfl (by decide) (fun Kx hKx => ?_) AllReadyZ.nil
          rw [if_pos (by kernel_rfl)]
          go_simp
          refine hKx.out _ _ ?_
          clear hKx Kx
          try simp only [Act.put, List.getElem_toArray, List.getElem_cons_zero, List.getElem_cons_succ, List.setIfInBounds_toArray, List.set_cons_zero, List.set_cons_succ]
          have g1 := cell_rowT 3 HX1.out rfl
          have f1 := frozenT 3 HX1.out
          refine wpAnyZ_ready (rs := [15]) (by kernel_rfl) (by simp) ?_
          refine AllReadyZ.late rfl (by decide) (fun Kx hKx => ?_) AllReadyZ.nil
          rw [if_pos (by kernel_rfl)]
          go_simp
          refine hKx.out _ _ ?_
          clear hKx Kx
          try simp only [Act.put, List.getElem_toArray, List.getElem_cons_zero, List.getElem_cons_succ, List.setIfInBounds_toArray, List.set_cons_zero, List.set_cons_succ]
          obtain ⟨X2, hX2⟩ : ∃ X2, X1.setCell ⟨w1.heap.size, 3, none⟩ (.string (orT T.region y.tr)) = X2 := ⟨_, rfl⟩
          rw [hX2]
          have HX2 := Lib.hid (show X2.heap[w1.heap.size]? = some (.cells #[.string T.lang, .slice be T.extl.length bec, .string (orT T.script y.ts), .string (orT T.region y.tr), .slice bv T.vars.length bvc, .slice bx T.exts.length bxc, .slice bp T.priv.length bpc, .string T.grand] 40 (0, 0)) by rw [← hX2]; exact cells_setT HX1.out _)
          have HG2 := Lib.hid (show World.grownBy U X2 (some w1.heap.size) by rw [← hX2]; exact grown_setT HG1.out 3 _)
          clear hX2 g1 f1
          refine wpAnyZ_done (by kernel_rfl) ?_ _
          refine hfin _ _ ?_
          clear hfin hKp KK
          have HZ2 := Lib.hid ((HG2.out.block _ (by have := lt_blockT HZ3.out; have := HHE.out.size; omega) (fun e => by have := Option.some.inj e; have := HN.out; omega)).trans ((HHE.out.block _ (lt_blockT HZ3.out)).trans HZ3.out))
          have HTN := Lib.hid ((((HT3.out.below HHE.out).grown HG2.out (.inr (Nat.le_refl _))).turn T.lang (orT T.script y.ts) (orT T.region y.tr)))
          have HB2 := Lib.hid ((HB3.out.trans (HHE.out.mono HB3.out.size)).grown HG2.out (by have := HB3.out.size; have := HHE.out.size; omega) (fun r e => by cases e; have := HN.out; omega))
          obtain ⟨t0, t1, t2, t3, t4, t5, t6, t7⟩ := tag_cells HX2.out
          go_wp2_with (refine wpList_store_row rfl _ _ _ rfl _ _ rfl rfl _ _ HZ2.out sizeTagT rfl (by simp [Value.oneCell']) ?_)
          refine bodyPost_ret (results_cell_tmpT rfl _ _ (w.heap.size + 2) 40 #[.string T.lang, .slice be T.extl.length bec, .string (orT T.script y.ts), .string (orT T.region y.tr), .slice bv T.vars.length bvc, .slice bx T.exts.length bxc, .slice bp T.priv.length bpc, .string T.grand] (0, 0) _ (.bool true) rfl rfl (setRow_heap _ _ _ _ _ _ HZ2.out) Try.underlying40 rfl sizeTagT) rfl ?_
          have HE := setRow_grownT X2 (w.heap.size + 2) #[.string T.lang, .slice be T.extl.length bec, .string (orT T.script y.ts), .string (orT T.region y.tr), .slice bv T.vars.length bvc, .slice bx T.exts.length bxc, .slice bp T.priv.length bpc, .string T.grand]
          rw [HMX.out.1, HMX.out.2]
          exact ⟨_, rfl, (HTN.out.grown HE (.inl HN.out.2)).is, HB2.out.grown HE (by have := lt_blockT HZ2.out; omega) (fun r e => by cases e; omega)⟩
      · rw [if_pos (by kernel_rfl)]
        go_simp
        obtain ⟨V, hV⟩ : ∃ V, (World.alloc W3 (.cells #[.string T.region, .string y.tr] 9)).drew = V := ⟨_, rfl⟩
        have qb := cells2T (show V.heap[W3.heap.size]? = some (.cells #[.string T.region, .string y.tr] 9 (0, 0)) by rw [← hV]; exact World.alloc_heap_new W3 _)
        have hHV : Below W3.heap.size W3 V := by rw [← hV]; exact Below.drew ((Below.refl _ W3).alloc (Nat.le_refl _) _)
        rw [hV]
        clear hV
        refine hKx.out _ _ hHV (fun hHeld => ?_)
        clear hKx Kx
        try simp only [Act.put, List.getElem_toArray, List.getElem_cons_zero, List.getElem_cons_succ, List.setIfInBounds_toArray, List.set_cons_zero, List.set_cons_succ]
        refine wpAnyZ_ready (rs := [4]) (by kernel_rfl) (by simp) ?_
        refine AllReadyZ.cons rfl (fun Kx hKx => ?_) AllReadyZ.nil
        rw [if_pos (by kernel_rfl)]
        go_simp
        obtain ⟨U, hU⟩ : ∃ x, World.alloc V (.cells #[.string T.script, .string y.ts] 9) = x := ⟨_, rfl⟩
        have qa := cells2T (show U.heap[(World.heap V).size]? = some (.cells #[.string T.script, .string y.ts] 9 (0, 0)) by rw [← hU]; exact World.alloc_heap_new _ _)
        have hHU : Below W3.heap.size W3 U := by rw [← hU]; exact hHeld.alloc hHeld.size _
        have hNB : Below (World.heap V).size V U := by rw [← hU]; exact (Below.refl _ _).alloc (Nat.le_refl _) _
        rw [hU]
        clear hU
        refine hKx.out _ _ hHU (fun hHeld => ?_)
        clear hKx Kx
        try simp only [Act.put, List.getElem_toArray, List.getElem_cons_zero, List.getElem_cons_succ, List.setIfInBounds_toArray, List.set_cons_zero, List.set_cons_succ]
        have qb := And.intro ((hNB.cell (lt_cellT qb.1)).trans qb.1) ((hNB.cell (lt_cellT qb.2)).trans qb.2)
        refine wpAnyZ_ready (rs := [5]) (by kernel_rfl) (by simp) ?_
        refine AllReadyZ.cons rfl (fun Kx hKx => ?_) AllReadyZ.nil
        rw [if_pos (by kernel_rfl)]
        go_simp
        refine (orT_any T.script y.ts _ _ qa.1 qa.2).mono ?_
        rintro e w4 ⟨rfl, hw4⟩
        obtain rfl : U = w4 := hw4.symm
        refine hKx.out _ _ hHeld (fun hHeld => ?_)
        clear hKx Kx
        try simp only [Act.put, List.getElem_toArray, List.getElem_cons_zero, List.getElem_cons_succ, List.setIfInBounds_toArray, List.set_cons_zero, List.set_cons_succ]
        refine wpAnyZ_take (i := 12) (v := .pointer (some ⟨w1.heap.size, 2, none⟩)) rfl (by kernel_rfl) (by kernel_rfl) (by kernel_rfl) (by kernel_rfl) (by kernel_rfl) (by kernel_rfl) (fun c a w h => hKp c a _ _ w h) (Or.inl ⟨by kernel_rfl, fun w hSw => by go_simp⟩) hHeld ?_
        simp only [Act.put, List.getElem_toArray, List.getElem_cons_zero, List.getElem_cons_succ, List.setIfInBounds_toArray, List.set_cons_zero, List.set_cons_succ]
        refine wpAnyZ_ready (rs := [11]) (by kernel_rfl) (by simp) ?_
        refine AllReadyZ.cons rfl (fun Kx hKx => ?_) AllReadyZ.nil
        rw [if_pos (by kernel_rfl)]
        go_simp
        refine (orT_any T.region y.tr _ _ qb.1 qb.2).mono ?_
        rintro e w4 ⟨rfl, hw4⟩
        obtain rfl : U = w4 := hw4.symm
        refine hKx.out _ _ hHeld (fun hHeld => ?_)
        clear hKx Kx
        try simp only [Act.put, List.getElem_toArray, List.getElem_cons_zero, List.getElem_cons_succ, List.setIfInBounds_toArray, List.set_cons_zero, List.set_cons_succ]
        have HHE := Lib.hid hHeld
        have HF7 := Lib.hid ((HHE.out.block _ (lt_blockT HF3.out)).trans HF3.out)
        have g1 := cell_rowT 2 HF7.out rfl
        have f1 := frozenT 2 HF7.out
        refine wpAnyZ_ready (rs := [13]) (by kernel_rfl) (by simp) ?_
        refine AllReadyZ.late rfl (by decide) (fun Kx hKx => ?_) AllReadyZ.nil
        rw [if_pos (by kernel_rfl)]
        go_simp
        refine hKx.out _ _ ?_
        clear hKx Kx
        try simp only [Act.put, List.getElem_toArray, List.getElem_cons_zero, List.getElem_cons_succ, List.setIfInBounds_toArray, List.set_cons_zero, List.set_cons_succ]
        obtain ⟨X1, hX1⟩ : ∃ X1, World.setCell U ⟨w1.heap.size, 2, none⟩ (.string (orT T.script y.ts)) = X1 := ⟨_, rfl⟩
        rw [hX1]
        have HX1 := Lib.hid (show X1.heap[w1.heap.size]? = some (.cells #[.string T.lang, .slice be T.extl.length bec, .string (orT T.script y.ts), .string T.region, .slice bv T.vars.length bvc, .slice bx T.exts.length bxc, .slice bp T.priv.length bpc, .string T.grand] 40 (0, 0)) by rw [← hX1]; exact cells_setT HF7.out _)
        have HG1 := Lib.hid (show World.grownBy U X1 (some w1.heap.size) by rw [← hX1]; exact grown_setT (World.grownBy.refl U (some w1.heap.size)) 2 _)
        clear hX1 g1 f1
        refine wpAnyZ_ready (rs := [14]) (by kernel_rfl) (by simp) ?_
        refine AllReadyZ.late rfl (by decide) (fun Kx hKx => ?_) AllReadyZ.nil
        rw [if_pos (by kernel_rfl)]
        go_simp
        refine hKx.out _ _ ?_
        clear hKx Kx
        try simp only [Act.put, List.getElem_toArray, List.getElem_cons_zero, List.getElem_cons_succ, List.setIfInBounds_toArray, List.set_cons_zero, List.set_cons_succ]
        have g1 := cell_rowT 3 HX1.out rfl
        have f1 := frozenT 3 HX1.out
        refine wpAnyZ_ready (rs := [15]) (by kernel_rfl) (by simp) ?_
        refine AllReadyZ.late rfl (by decide) (fun Kx hKx => ?_) AllReadyZ.nil
        rw [if_pos (by kernel_rfl)]
        go_simp
        refine hKx.out _ _ ?_
        clear hKx Kx
        try simp only [Act.put, List.getElem_toArray, List.getElem_cons_zero, List.getElem_cons_succ, List.setIfInBounds_toArray, List.set_cons_zero, List.set_cons_succ]
        obtain ⟨X2, hX2⟩ : ∃ X2, X1.setCell ⟨w1.heap.size, 3, none⟩ (.string (orT T.region y.tr)) = X2 := ⟨_, rfl⟩
        rw [hX2]
        have HX2 := Lib.hid (show X2.heap[w1.heap.size]? = some (.cells #[.string T.lang, .slice be T.extl.length bec, .string (orT T.script y.ts), .string (orT T.region y.tr), .slice bv T.vars.length bvc, .slice bx T.exts.length bxc, .slice bp T.priv.length bpc, .string T.grand] 40 (0, 0)) by rw [← hX2]; exact cells_setT HX1.out _)
        have HG2 := Lib.hid (show World.grownBy U X2 (some w1.heap.size) by rw [← hX2]; exact grown_setT HG1.out 3 _)
        clear hX2 g1 f1
        refine wpAnyZ_done (by kernel_rfl) ?_ _
        refine hfin _ _ ?_
        clear hfin hKp KK
        have HZ2 := Lib.hid ((HG2.out.block _ (by have := lt_blockT HZ3.out; have := HHE.out.size; omega) (fun e => by have := Option.some.inj e; have := HN.out; omega)).trans ((HHE.out.block _ (lt_blockT HZ3.out)).trans HZ3.out))
        have HTN := Lib.hid ((((HT3.out.below HHE.out).grown HG2.out (.inr (Nat.le_refl _))).turn T.lang (orT T.script y.ts) (orT T.region y.tr)))
        have HB2 := Lib.hid ((HB3.out.trans (HHE.out.mono HB3.out.size)).grown HG2.out (by have := HB3.out.size; have := HHE.out.size; omega) (fun r e => by cases e; have := HN.out; omega))
        obtain ⟨t0, t1, t2, t3, t4, t5, t6, t7⟩ := tag_cells HX2.out
        go_wp2_with (refine wpList_store_row rfl _ _ _ rfl _ _ rfl rfl _ _ HZ2.out sizeTagT rfl (by simp [Value.oneCell']) ?_)
        refine bodyPost_ret (results_cell_tmpT rfl _ _ (w.heap.size + 2) 40 #[.string T.lang, .slice be T.extl.length bec, .string (orT T.script y.ts), .string (orT T.region y.tr), .slice bv T.vars.length bvc, .slice bx T.exts.length bxc, .slice bp T.priv.length bpc, .string T.grand] (0, 0) _ (.bool true) rfl rfl (setRow_heap _ _ _ _ _ _ HZ2.out) Try.underlying40 rfl sizeTagT) rfl ?_
        have HE := setRow_grownT X2 (w.heap.size + 2) #[.string T.lang, .slice be T.extl.length bec, .string (orT T.script y.ts), .string (orT T.region y.tr), .slice bv T.vars.length bvc, .slice bx T.exts.length bxc, .slice bp T.priv.length bpc, .string T.grand]
        rw [HMX.out.1, HMX.out.2]
        exact ⟨_, rfl, (HTN.out.grown HE (.inl HN.out.2)).is, HB2.out.grown HE (by have := lt_blockT HZ2.out; omega) (fun r e => by cases e; omega)⟩
end Go.Proofs.Ythjfcfhibdpbnaa
