/-
  The project's Subtags: the closures that tell a tag's fields.
-/
import Derived.Test.YtdgeaelblebaoaaFTag
import Derived.Test.YtdgeaelblebaoaaIPick
import Derived.Test.YtdgeaelblebaoaaISpoilt
import Derived.Deep.RegionHeld3
import Derived.Deep.AppendLies
namespace Go.Proofs.Ytdgeaelblebaoaa
open Go Go.RowKit

theorem run_append_none (P : Program) {w : World} (base : Nat) (t ty e : TypeId) (i : TypeInfo) (size c : Nat) (ht : P.underlying t = some (.slice e)) (hi : P.info? e = some i)
    (v : Value) (n : Nat) (xs : List Value) (hown : w.ownsRow base e size v n xs) : (Builtin.append_ #[t, t] ty #[v, .slice none 0 c]).run P w = .ok v w := by
  rcases hown.2 with ⟨rfl, rfl⟩ | ⟨g, cap, cur, rfl, _, _, hnc, _⟩
  · simp [Builtin.append_, run_underlying ht, sizeOf, typeInfo, hi, Builtin.lenOf, Builtin.firstCells]
  · simp [Builtin.append_, run_underlying ht, sizeOf, typeInfo, hi, Builtin.lenOf, Builtin.firstCells, hnc, storeCells]
/-- 'append(out, row...)', whatever the row: nil, empty, or not. -/
theorem wp_append_any {P : Program} (w : World) {o : Oper} {a : Act} {K : Act → World → Prop} {Q : Exit → Act → World → Prop} (s x : Operand) (t : TypeId)
    (ho : o.op = .call { callee := .builtin .append, args := #[s, x], argTypes := #[t, t] })
    (base : Nat) (e : TypeId) (i : TypeInfo) (z : Value) (size bytes : Nat) (ht : P.underlying t = some (.slice e)) (hi : P.info? e = some i) (hz : i.zero = some z)
    (hsize : i.size = size) (hby : i.bytes = bytes) (hzs : z.cells.size = size) (hsz : 0 < size)
    (v : Value) (n : Nat) (xs : List Value) (hs : a.eval s = v) (hown : w.ownsRow base e size v n xs)
    (ao : Option Addr) (m c : Nat) (news : List Value) (hx : a.eval x = .slice ao m c) (hl : news.length = m * size) (hnone : ao = none → m = 0) (hnews : ∀ ad, ao = some ad → ∀ j u, news[j]? = some u → w.cell? (ad.add j) = some u) (h1 : ∀ u ∈ news, u.oneCell' = true)
    (h63 : n + m ≤ maxLen) (hbytes : (n + m) * bytes ≤ 140737488355328) (hbase : base ≤ w.heap.size)
    (h : ∀ v' w', w'.ownsRow base e size v' (n + m) (xs ++ news) → w.grownBy w' v.ownBlock → K (a.put o.dst v') w') : Oper.wp P o a w K Q := by
  cases ao with
  | some ad => exact wp_append_own w s x t ho base e i z size bytes ht hi hz hsize hby hzs hsz v n xs hs hown ad m c news hx hl (hnews ad rfl) h1 h63 hbytes hbase fun v' w' h2 h3 _ => h v' w' h2 h3
  | none =>
    obtain rfl := hnone rfl
    obtain rfl : news = [] := List.eq_nil_of_length_eq_zero (by simpa using hl)
    have hrun := run_append_none P base t o.type e i size c ht hi v n xs hown
    unfold Oper.wp
    simp [execOp, ho, resolve, invoke, builtin, hs, hx, hrun, Result.andThen]
    exact h v w (by simpa using hown) (World.grownBy.refl _ _)
theorem wpList_append_any {P : Program} (w : World) {ops : Array Oper} {rest : List Oper} {o : Oper} {a : Act} {Q : Exit → Act → World → Prop} (hgd : o.guard = none) (s x : Operand) (t : TypeId)
    (ho : o.op = .call { callee := .builtin .append, args := #[s, x], argTypes := #[t, t] })
    (base : Nat) (e : TypeId) (i : TypeInfo) (z : Value) (size bytes : Nat) (ht : P.underlying t = some (.slice e)) (hi : P.info? e = some i) (hz : i.zero = some z)
    (hsize : i.size = size) (hby : i.bytes = bytes) (hzs : z.cells.size = size) (hsz : 0 < size)
    (v : Value) (n : Nat) (xs : List Value) (hs : a.eval s = v) (hown : w.ownsRow base e size v n xs)
    (ao : Option Addr) (m c : Nat) (news : List Value) (hx : a.eval x = .slice ao m c) (hl : news.length = m * size) (hnone : ao = none → m = 0) (hnews : ∀ ad, ao = some ad → ∀ j u, news[j]? = some u → w.cell? (ad.add j) = some u) (h1 : ∀ u ∈ news, u.oneCell' = true)
    (h63 : n + m ≤ maxLen) (hbytes : (n + m) * bytes ≤ 140737488355328) (hbase : base ≤ w.heap.size)
    (h : ∀ v' w', w'.ownsRow base e size v' (n + m) (xs ++ news) → w.grownBy w' v.ownBlock → wpList P ops Q rest (a.put o.dst v') w') : wpList P ops Q (o :: rest) a w :=
  wpList_plain hgd fun _ hK => wp_append_any w s x t ho base e i z size bytes ht hi hz hsize hby hzs hsz v n xs hs hown ao m c news hx hl hnone hnews h1 h63 hbytes hbase fun v' w' h2 h3 => hK _ _ (h v' w' h2 h3)
theorem step_append_any {P : Program} (w : World) {ops : Array Oper} {o : Oper} {a : Act} {K : Act → World → Prop} {Q : Exit → Act → World → Prop} {X : Prop} (hgd : o.guard = none) (s x : Operand) (t : TypeId)
    (ho : o.op = .call { callee := .builtin .append, args := #[s, x], argTypes := #[t, t] })
    (base : Nat) (e : TypeId) (i : TypeInfo) (z : Value) (size bytes : Nat) (ht : P.underlying t = some (.slice e)) (hi : P.info? e = some i) (hz : i.zero = some z)
    (hsize : i.size = size) (hby : i.bytes = bytes) (hzs : z.cells.size = size) (hsz : 0 < size)
    (v : Value) (n : Nat) (xs : List Value) (hs : a.eval s = v) (hown : w.ownsRow base e size v n xs)
    (ao : Option Addr) (m c : Nat) (news : List Value) (hx : a.eval x = .slice ao m c) (hl : news.length = m * size) (hnone : ao = none → m = 0) (hnews : ∀ ad, ao = some ad → ∀ j u, news[j]? = some u → w.cell? (ad.add j) = some u) (h1 : ∀ u ∈ news, u.oneCell' = true)
    (h63 : n + m ≤ maxLen) (hbytes : (n + m) * bytes ≤ 140737488355328) (hbase : base ≤ w.heap.size)
    (h : ∀ v' w', w'.ownsRow base e size v' (n + m) (xs ++ news) → w.grownBy w' v.ownBlock → K (a.put o.dst v') w') :
    if Region.wanted o (yielded ops a.tmps) = true then Oper.wp P o a w K Q else X := by
  have hw : Region.wanted o (yielded ops a.tmps) = true := by simp [Region.wanted, hgd]
  rw [if_pos hw]
  exact wp_append_any w s x t ho base e i z size bytes ht hi hz hsize hby hzs hsz v n xs hs hown ao m c news hx hl hnone hnews h1 h63 hbytes hbase h
/-- A row's cells, as an append reads them. -/
theorem Row.news {W : World} {ao : Option Addr} {l : List ByteArray} {c : Nat} (h : Row W (.slice ao l.length c) l) : (ao = none → l.length = 0) ∧ ∀ ad, ao = some ad → ∀ j u, (strs l)[j]? = some u → W.cell? (ad.add j) = some u := by
  obtain ⟨a, c', he, hc⟩ := h
  injection he with h1 _ _
  subst h1
  constructor
  · rintro rfl
    cases l with
    | nil => rfl
    | cons x r => obtain ⟨g, h, _⟩ := hc 0 x rfl; cases h
  · rintro ad rfl j u hu
    unfold strs at hu
    rw [List.getElem?_map] at hu
    cases hx : l[j]? with
    | none => rw [hx] at hu; simp at hu
    | some x =>
      rw [hx] at hu
      obtain ⟨g, h, hcell⟩ := hc j x hx
      cases h
      rw [Addr.add_lit, Nat.zero_add, hcell]
      exact hu

theorem own_not_extE {w : World} {base B : Nat} {v : Value} {n : Nat} {xs : List Value} {cs : Array Value} (h : w.ownsRow base 9 1 v n xs) (hB : w.heap[B]? = some (.cells cs 53 (0, 0))) : v.ownBlock ≠ some B := by
  rcases h.2 with ⟨rfl, _⟩ | ⟨g, c, cur, rfl, _, hg, _⟩
  · simp [Value.ownBlock]
  · intro e
    have e : g = B := by simpa [Value.ownBlock] using e
    subst e
    rw [hB] at hg
    simp at hg
theorem there_own (s : ByteArray) (w : World) :
    Calls Try.prog 67 #[.string s] w fun e w' => ∃ u, e = .returned u ∧ Row w' u (oneT s) ∧ Below w.heap.size w w' := by
  by_cases h : s.size = 0
  · have he := empty_true h
    have HE := Lib.hid (show oneT s = [] by unfold oneT; rw [if_pos h])
    clear h
    go_enter Try.func67, Try.ntmps67
    go_wp2
    go_ret
    exact ⟨_, rfl, by rw [HE.out]; exact ⟨none, 0, rfl, fun i x h => by simp at h⟩, Below.refl _ _⟩
  · have he := empty_false (s := s) (by omega)
    have HE := Lib.hid (show oneT s = [s] by unfold oneT; rw [if_neg h])
    clear h
    go_enter Try.func67, Try.ntmps67
    go_wp2
    go_ret
    exact ⟨_, rfl, by rw [HE.out]; exact Row.of_block [s] _ _ rfl (World.alloc_heap_new w _), (Below.refl _ w).alloc (Nat.le_refl _) _⟩

theorem field1_own (v : Value) (T : TagM) (w : World) (hT : TagIs w v T) :
    Calls Try.prog 66 #[v] w fun e w' => ∃ u, e = .returned u ∧ Row w' u (oneT T.lang) ∧ Below w.heap.size w w' := by
  obtain ⟨ve, vv, vx, vp, rfl, R1, R2, R3, R4⟩ := hT
  obtain ⟨W0, hW0⟩ : ∃ W0, w.alloc (.cells #[.string T.lang, ve, .string T.script, .string T.region, vv, vx, vp, .string T.grand] 29) = W0 := ⟨_, rfl⟩
  have hb0 : Below w.heap.size w W0 := by rw [← hW0]; exact (Below.refl _ w).alloc (Nat.le_refl _) _
  have hh0 : W0.heap[w.heap.size]? = some (.cells #[.string T.lang, ve, .string T.script, .string T.region, vv, vx, vp, .string T.grand] 29 (0, 0)) := by rw [← hW0]; exact World.alloc_heap_new w _
  have hl0 := hb0.size
  obtain ⟨d0, d1, d2, d3, d4, d5, d6, d7⟩ := tag_cells hh0
  have HB0 := Lib.hid hb0
  have TH := Lib.hid (there_own T.lang W0)
  clear hh0 hb0 R1 R2 R3 R4
  go_enter Try.func66, Try.ntmps66
  go_wp2_with (go_at_call 67; (with_reducible refine TH.out.mono ?_); rintro e w5 ⟨u, rfl, hR, hb5⟩)
  go_ret
  exact ⟨_, rfl, hR, HB0.out.trans (hb5.mono hl0)⟩

theorem field3_own (v : Value) (T : TagM) (w : World) (hT : TagIs w v T) :
    Calls Try.prog 69 #[v] w fun e w' => ∃ u, e = .returned u ∧ Row w' u (oneT T.script) ∧ Below w.heap.size w w' := by
  obtain ⟨ve, vv, vx, vp, rfl, R1, R2, R3, R4⟩ := hT
  obtain ⟨W0, hW0⟩ : ∃ W0, w.alloc (.cells #[.string T.lang, ve, .string T.script, .string T.region, vv, vx, vp, .string T.grand] 29) = W0 := ⟨_, rfl⟩
  have hb0 : Below w.heap.size w W0 := by rw [← hW0]; exact (Below.refl _ w).alloc (Nat.le_refl _) _
  have hh0 : W0.heap[w.heap.size]? = some (.cells #[.string T.lang, ve, .string T.script, .string T.region, vv, vx, vp, .string T.grand] 29 (0, 0)) := by rw [← hW0]; exact World.alloc_heap_new w _
  have hl0 := hb0.size
  obtain ⟨d0, d1, d2, d3, d4, d5, d6, d7⟩ := tag_cells hh0
  have HB0 := Lib.hid hb0
  have TH := Lib.hid (there_own T.script W0)
  clear hh0 hb0 R1 R2 R3 R4
  go_enter Try.func69, Try.ntmps69
  go_wp2_with (go_at_call 67; (with_reducible refine TH.out.mono ?_); rintro e w5 ⟨u, rfl, hR, hb5⟩)
  go_ret
  exact ⟨_, rfl, hR, HB0.out.trans (hb5.mono hl0)⟩

theorem field4_own (v : Value) (T : TagM) (w : World) (hT : TagIs w v T) :
    Calls Try.prog 70 #[v] w fun e w' => ∃ u, e = .returned u ∧ Row w' u (oneT T.region) ∧ Below w.heap.size w w' := by
  obtain ⟨ve, vv, vx, vp, rfl, R1, R2, R3, R4⟩ := hT
  obtain ⟨W0, hW0⟩ : ∃ W0, w.alloc (.cells #[.string T.lang, ve, .string T.script, .string T.region, vv, vx, vp, .string T.grand] 29) = W0 := ⟨_, rfl⟩
  have hb0 : Below w.heap.size w W0 := by rw [← hW0]; exact (Below.refl _ w).alloc (Nat.le_refl _) _
  have hh0 : W0.heap[w.heap.size]? = some (.cells #[.string T.lang, ve, .string T.script, .string T.region, vv, vx, vp, .string T.grand] 29 (0, 0)) := by rw [← hW0]; exact World.alloc_heap_new w _
  have hl0 := hb0.size
  obtain ⟨d0, d1, d2, d3, d4, d5, d6, d7⟩ := tag_cells hh0
  have HB0 := Lib.hid hb0
  have TH := Lib.hid (there_own T.region W0)
  clear hh0 hb0 R1 R2 R3 R4
  go_enter Try.func70, Try.ntmps70
  go_wp2_with (go_at_call 67; (with_reducible refine TH.out.mono ?_); rintro e w5 ⟨u, rfl, hR, hb5⟩)
  go_ret
  exact ⟨_, rfl, hR, HB0.out.trans (hb5.mono hl0)⟩

theorem field2_own (v : Value) (T : TagM) (w : World) (hT : TagIs w v T) :
    Calls Try.prog 68 #[v] w fun e w' => ∃ u, e = .returned u ∧ Row w' u (T.extl) ∧ Below w.heap.size w w' := by
  obtain ⟨ve, vv, vx, vp, rfl, R1, R2, R3, R4⟩ := hT
  obtain ⟨W0, hW0⟩ : ∃ W0, w.alloc (.cells #[.string T.lang, ve, .string T.script, .string T.region, vv, vx, vp, .string T.grand] 29) = W0 := ⟨_, rfl⟩
  have hb0 : Below w.heap.size w W0 := by rw [← hW0]; exact (Below.refl _ w).alloc (Nat.le_refl _) _
  have hh0 : W0.heap[w.heap.size]? = some (.cells #[.string T.lang, ve, .string T.script, .string T.region, vv, vx, vp, .string T.grand] 29 (0, 0)) := by rw [← hW0]; exact World.alloc_heap_new w _
  have hl0 := hb0.size
  obtain ⟨d0, d1, d2, d3, d4, d5, d6, d7⟩ := tag_cells hh0
  have HB0 := Lib.hid hb0
  have HR := Lib.hid (R1.below hb0)
  clear hh0 hb0 R1 R2 R3 R4
  go_enter Try.func68, Try.ntmps68
  go_wp2_with fail
  go_ret
  exact ⟨_, rfl, HR.out, HB0.out⟩

theorem field5_own (v : Value) (T : TagM) (w : World) (hT : TagIs w v T) :
    Calls Try.prog 71 #[v] w fun e w' => ∃ u, e = .returned u ∧ Row w' u (T.vars) ∧ Below w.heap.size w w' := by
  obtain ⟨ve, vv, vx, vp, rfl, R1, R2, R3, R4⟩ := hT
  obtain ⟨W0, hW0⟩ : ∃ W0, w.alloc (.cells #[.string T.lang, ve, .string T.script, .string T.region, vv, vx, vp, .string T.grand] 29) = W0 := ⟨_, rfl⟩
  have hb0 : Below w.heap.size w W0 := by rw [← hW0]; exact (Below.refl _ w).alloc (Nat.le_refl _) _
  have hh0 : W0.heap[w.heap.size]? = some (.cells #[.string T.lang, ve, .string T.script, .string T.region, vv, vx, vp, .string T.grand] 29 (0, 0)) := by rw [← hW0]; exact World.alloc_heap_new w _
  have hl0 := hb0.size
  obtain ⟨d0, d1, d2, d3, d4, d5, d6, d7⟩ := tag_cells hh0
  have HB0 := Lib.hid hb0
  have HR := Lib.hid (R2.below hb0)
  clear hh0 hb0 R1 R2 R3 R4
  go_enter Try.func71, Try.ntmps71
  go_wp2_with fail
  go_ret
  exact ⟨_, rfl, HR.out, HB0.out⟩

theorem field7_own (v : Value) (T : TagM) (w : World) (hT : TagIs w v T) (hF : T.priv.length ≤ 1000) :
    Calls Try.prog 73 #[v] w fun e w' => ∃ u, e = .returned u ∧ Row w' u (privT T.priv) ∧ Below w.heap.size w w' := by
  obtain ⟨ve, vv, vx, vp, rfl, R1, R2, R3, R4⟩ := hT
  obtain ⟨W0, hW0⟩ : ∃ W0, w.alloc (.cells #[.string T.lang, ve, .string T.script, .string T.region, vv, vx, vp, .string T.grand] 29) = W0 := ⟨_, rfl⟩
  have hb0 : Below w.heap.size w W0 := by rw [← hW0]; exact (Below.refl _ w).alloc (Nat.le_refl _) _
  have hh0 : W0.heap[w.heap.size]? = some (.cells #[.string T.lang, ve, .string T.script, .string T.region, vv, vx, vp, .string T.grand] 29 (0, 0)) := by rw [← hW0]; exact World.alloc_heap_new w _
  have hl0 := hb0.size
  obtain ⟨d0, d1, d2, d3, d4, d5, d6, d7⟩ := tag_cells hh0
  have HB0 := Lib.hid hb0
  have HR := Lib.hid (R4.below hb0)
  obtain ⟨ao, c, rfl, _⟩ := R4
  obtain ⟨i0, hii, iz0, iz1, iz2⟩ := info_parts stringInfo
  by_cases h0 : T.priv.length = 0
  · have HE := Lib.hid (show privT T.priv = [] by unfold privT; rw [if_pos h0])
    have hz : ((T.priv.length : Int) == 0) = true := by rw [beq_iff_eq]; omega
    clear hh0 hb0 R1 R2 R3 h0
    go_enter Try.func73, Try.ntmps73
    go_wp2_with fail
    go_ret
    exact ⟨_, rfl, by rw [HE.out]; exact ⟨none, 0, rfl, fun i x h => by simp at h⟩, HB0.out⟩
  · have HE := Lib.hid (show privT T.priv = [⟨#[120]⟩] ++ T.priv by unfold privT; rw [if_neg h0]; rfl)
    have hz : ((T.priv.length : Int) == 0) = false := by rw [beq_eq_false_iff_ne]; omega
    have hbx : Below W0.heap.size W0 (W0.alloc (.cells #[.string ⟨#[120]⟩] 9)) := (Below.refl _ W0).alloc (Nat.le_refl _) _
    have c6 := (hbx.cell (p := ⟨w.heap.size, 6, none⟩) (lt_of_cellF d6)).trans d6
    have HN := Lib.hid ((HR.out.below hbx).news)
    have HO := Lib.hid (World.ownsRow_lit (base := W0.heap.size) (e := 9) (size := 1) W0 #[.string ⟨#[120]⟩] 1 (Nat.le_refl _) (by decide) rfl)
    clear hh0 hb0 R1 R2 R3 h0 hbx
    go_enter Try.func73, Try.ntmps73
    go_wp2_with (at_builtin; refine wpList_append_any _ rfl _ _ 26 rfl W0.heap.size 9 i0 (.string ByteArray.empty) 1 16 Try.underlying26 hii iz0 iz1 iz2 rfl (by decide) _ 1 _ rfl HO.out ao T.priv.length c (strs T.priv) rfl (by simp [strs]) HN.out.1 HN.out.2 (by intro u hu; unfold strs at hu; obtain ⟨_, _, rfl⟩ := List.mem_map.1 hu; rfl) (by unfold maxLen; omega) (by omega) (by simp) ?_; intro v' w7 hown7 hgrow7)
    go_ret
    refine ⟨_, rfl, ?_, ?_⟩
    · rw [HE.out]
      refine Row.of_own (base := W0.heap.size) ?_
      rw [List.length_append, strs_append]
      exact hown7
    · exact HB0.out.trans (((Below.refl w.heap.size W0).alloc hl0 _).grown hgrow7 (by simp; omega) (fun g hg => by have := (HO.out.lt g hg).1; omega))

set_option maxRecDepth 100000 in
set_option maxHeartbeats 4000000 in
theorem field6_own (v : Value) (T : TagM) (w : World) (hT : TagIs w v T) (hF : T.exts.length ≤ 100) (hS : ∀ x ∈ T.exts, x.2.length ≤ 100) :
    Calls Try.prog 72 #[v] w fun e w' => ∃ u, e = .returned u ∧ Row w' u (T.exts.flatMap extT) ∧ Below w.heap.size w w' := by
  obtain ⟨i0, hii, iz0, iz1, iz2⟩ := info_parts stringInfo
  obtain ⟨ve, vv, vx, vp, rfl, R1, R2, R3, R4⟩ := hT
  obtain ⟨W0, hW0⟩ : ∃ W0, w.alloc (.cells #[.string T.lang, ve, .string T.script, .string T.region, vv, vx, vp, .string T.grand] 29) = W0 := ⟨_, rfl⟩
  have hb0 : Below w.heap.size w W0 := by rw [← hW0]; exact (Below.refl _ w).alloc (Nat.le_refl _) _
  have hh0 : W0.heap[w.heap.size]? = some (.cells #[.string T.lang, ve, .string T.script, .string T.region, vv, vx, vp, .string T.grand] 29 (0, 0)) := by rw [← hW0]; exact World.alloc_heap_new w _
  have hl0 := hb0.size
  obtain ⟨d0, d1, d2, d3, d4, d5, d6, d7⟩ := tag_cells hh0
  have HB0 := Lib.hid hb0
  obtain ⟨ao, cp, rfl, K3⟩ := R3.below hb0
  have K3 := Lib.hid K3
  have HSL := Lib.hid hS
  clear hh0 hb0 R1 R2 R3 R4 hS
  go_enter Try.func72, Try.ntmps72
  go_wp2_with fail
  go_loopw [3, 9] (fun u i wr => ∃ k : Nat, k ≤ T.exts.length ∧ i = .int .i64 (k : Int) ∧ Acc W0 ((T.exts.take k).flatMap extT) u wr) (fun _ i _ => T.exts.length - (intOf i).toNat)
  case atStart => exact ⟨0, Nat.zero_le _, rfl, Acc.start W0⟩
  case round =>
    obtain ⟨k, hk, rfl, HA⟩ := hrel
    have hsz := HA.2.size
    by_cases hlt : k < T.exts.length
    · have hki : (k : Int) < (T.exts.length : Int) := by omega
      have hk0 : (0 : Int) ≤ (k : Int) := by omega
      obtain ⟨x, hx⟩ : ∃ x, T.exts[k]? = some x := ⟨_, List.getElem?_eq_getElem hlt⟩
      obtain ⟨g, us, rfl, c1, c2, r1⟩ := K3.out k x hx
      have hxl := HSL.out x (List.mem_of_getElem? hx)
      have c1 := (HA.2.cell (p := ⟨g, k * 2, none⟩) (lt_of_cellF c1)).trans c1
      have c2 := (HA.2.cell (p := ⟨g, k * 2 + 1, none⟩) (lt_of_cellF c2)).trans c2
      have hfl := flat_len T.exts HSL.out k
      have HNX := Lib.hid (show (T.exts.take (k + 1)).flatMap extT = (T.exts.take k).flatMap extT ++ ([x.1] ++ x.2) by rw [take_next hx, List.flatMap_append]; simp [extT])
      generalize (T.exts.take k).flatMap extT = L at *
      obtain ⟨ua, uc, rfl, _⟩ := r1
      have hr1 : Row W0 (.slice ua x.2.length uc) x.2 := ⟨ua, uc, rfl, by assumption⟩
      have HR1 := Lib.hid hr1
      go_upto_region 5 with fail
      obtain ⟨we, hwe⟩ : ∃ we, wr.alloc (.cells #[.string x.1, .slice ua x.2.length uc] 53) = we := ⟨_, rfl⟩
      have hE : we.heap[wr.heap.size]? = some (.cells #[.string x.1, .slice ua x.2.length uc] 53 (0, 0)) := by rw [← hwe]; exact World.alloc_heap_new wr _
      have hown : we.ownsRow W0.heap.size 9 1 u3 L.length (strs L) := by rw [← hwe]; exact HA.1.alloc _
      have hBe : Below W0.heap.size W0 we := by rw [← hwe]; exact HA.2.alloc hsz _
      have hse := hBe.size
      rw [hwe]
      have hEd : we.drew.heap[wr.heap.size]? = some (.cells #[.string x.1, .slice ua x.2.length uc] 53 (0, 0)) := hE
      have hBd : Below W0.heap.size W0 we.drew := Below.drew hBe
      have hownd : we.drew.ownsRow W0.heap.size 9 1 u3 L.length (strs L) := hown
      have hEl := lt_of_heap hEd
      have hEa := (Below.heap_alloc we.drew (.cells #[.string x.1] 9) _ hEl).trans hEd
      have hBa : Below W0.heap.size W0 (we.drew.alloc (.cells #[.string x.1] 9)) := hBd.alloc hBd.size _
      have q0 : we.drew.cell? ⟨wr.heap.size, 0, none⟩ = some (.string x.1) ∧ we.drew.cell? ⟨wr.heap.size, 1, none⟩ = some (.slice ua x.2.length uc) := by simp [World.cell?, hEd]
      have HCE := Lib.hid (fun (w' : World) (h : w'.heap[wr.heap.size]? = some (.cells #[.string x.1, .slice ua x.2.length uc] 53 (0, 0))) => show w'.cell? ⟨wr.heap.size, 0, none⟩ = some (.string x.1) ∧ w'.cell? ⟨wr.heap.size, 1, none⟩ = some (.slice ua x.2.length uc) by simp [World.cell?, h])
      obtain ⟨q1, q2⟩ := q0
      have hne : u3.ownBlock ≠ some wr.heap.size := by
        intro e
        have h1 := own_not_extE hownd hEd
        exact h1 e
      have HHE := Lib.hid hEa
      have HHA := Lib.hid hBa
      have HOW := Lib.hid hownd
      clear c1 c2 HA hE hown hBe hwe hEd hEa hr1
      go_region_held3 (fun w' => Below W0.heap.size W0 w' ∧ w'.cell? ⟨wr.heap.size, 0, none⟩ = some (.string x.1) ∧ w'.cell? ⟨wr.heap.size, 1, none⟩ = some (.slice ua x.2.length uc))
        (first | exact ⟨by assumption, by assumption, by assumption⟩ | exact ⟨hB6, HCE.out _ hE6⟩ | exact ⟨HHA.out, HCE.out _ HHE.out⟩)
        (first
          | ((refine step_append_lies _ (by rfl) _ _ 26 (by rfl) W0.heap.size 9 i0 (.string ByteArray.empty) 1 16 Try.underlying26 hii iz0 iz1 iz2 (by rfl) (by decide) _ L.length _ (by rfl) (HOW.out.alloc _) _ 1 1 [.string x.1] (by rfl) (by rfl) (World.news_of_block (World.alloc_heap_new _ _)) (by intro u hu; simp at hu; subst hu; rfl) (by decide) (by unfold maxLen; omega) (by omega) (by simp; omega) _ rfl ?_); intro g6 cap6 w6 hown6 hgrow6 _ _; have hE6 := (hgrow6.block _ (lt_of_heap HHE.out) (fun e => hne e.symm)).trans HHE.out; have hB6 := HHA.out.grown hgrow6 HHA.out.size (fun g hg => (HOW.out.lt g hg).1); have hne6 := own_not_extE hown6 hE6; have HN6 := Lib.hid ((HR1.out.below hB6).news); have hs6 := hB6.size)
          | ((refine step_append_any _ (by rfl) _ _ 26 (by rfl) W0.heap.size 9 i0 (.string ByteArray.empty) 1 16 Try.underlying26 hii iz0 iz1 iz2 (by rfl) (by decide) _ (L.length + 1) _ (by rfl) hown6 ua x.2.length uc (strs x.2) (by rfl) (by simp [strs]) HN6.out.1 HN6.out.2 (by intro u hu; unfold strs at hu; obtain ⟨_, _, rfl⟩ := List.mem_map.1 hu; rfl) (by unfold maxLen; omega) (by omega) hs6 ?_); intro v7 w7 hown7 hgrow7; have hE6 := (hgrow7.block _ (lt_of_heap hE6) (fun e => hne6 e.symm)).trans hE6; have hB6 := hB6.grown hgrow7 hB6.size (fun g hg => (hown6.lt g hg).1)))
      go_wp2_with fail
      go_roundw
      case rel =>
        refine ⟨k + 1, by omega, by go_num, ?_, hB6⟩
        rw [HNX.out, List.length_append, List.length_append, strs_append, strs_append, ← List.append_assoc, ← Nat.add_assoc]
        exact hown7
      case measure => simp [intOf]; omega
    · obtain rfl : k = T.exts.length := by omega
      have hki : ¬ (T.exts.length : Int) < (T.exts.length : Int) := by omega
      rw [List.take_of_length_le (Nat.le_refl _)] at HA
      go_wp2_with fail
      go_ret
      exact ⟨_, rfl, Row.of_own HA.1, HB0.out.trans (HA.2.mono hl0)⟩
end Go.Proofs.Ytdgeaelblebaoaa
