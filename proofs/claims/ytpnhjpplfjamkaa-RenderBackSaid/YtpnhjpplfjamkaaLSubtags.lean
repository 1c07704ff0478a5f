/-
  The project's Subtags: the closures that tell a tag's fields. The project's Subtags.
-/
import Derived.Test.YtpnhjpplfjamkaaFTag
import Derived.Test.YtpnhjpplfjamkaaIPick
import Derived.Test.YtpnhjpplfjamkaaISpoilt
import Derived.Deep.RegionHeld3
import Derived.Deep.AppendLies
import Derived.Test.YtpnhjpplfjamkaaPiece
/-! The project's Subtags: the closures that tell a tag's fields. -/
namespace Go.Proofs.Ytpnhjpplfjamkaa
open Go Go.RowKit

theorem run_append_none (P : Program) {w : World} (base : Nat) (t ty e : TypeId) (i : TypeInfo) (size c : Nat) (ht : P.underlying t = some (.slice e)) (hi : P.info? e = some i)
    (v : Value) (n : Nat) (xs : List Value) (hown : w.ownsRow base e size v n xs) : (Builtin.append_ #[t, t] ty #[v, .slice none 0 c]).run P w = .ok v w := by
  rcases hown.2 with ⟨rfl, rfl⟩ | ⟨g, cap, cur, rfl, _, _, hnc, _⟩
  · simp [Builtin.append_, run_underlying ht, sizeOf, typeInfo, hi, Builtin.lenOf, Builtin.firstCells]
  · simp [Builtin.append_, run_underlying ht, sizeOf, typeInfo, hi, Builtin.lenOf, Builtin.firstCells, hnc, storeCells]
/-- 'append(out, row...)', whatever the row: nil, empty, or not. -/
theorem wp_append_any {P : Program} (w : World) {o : Oper} {a : Act} {K : Act → World → Prop} {Q : Exit → Act → World → Prop} (s x : Operand) (t : TypeId)
    (ho : o.op = .call { callee := .builtin .append, args := #[s, x], argTypes := #[t, t] })
    (base : Nat) (e : TypeId) (i : TypeInfo) (z : Value) (size bytes : Nat) (ht : P.underlying t = some (.slice e)) (hi : P.info? e = some i) (hz : i.zero = some z)
    (hsize : i.size = size) (hby : i.bytes = bytes) (hzs : z.cells.size = size) (hsz : 0 < size)
    (v : Value) (n : Nat) (xs : List Value) (hs : a.eval s = v) (hown : w.ownsRow base e size v n xs)
    (ao : Option Addr) (m c : Nat) (news : List Value) (hx : a.eval x = .slice ao m c) (hl : news.length = m * size) (hnone : ao = none → m = 0) (hnews : ∀ ad, ao = some ad → ∀ j u, news[j]? = some u → w.cell? (ad.add j) = some u) (h1 : ∀ u ∈ news, u.oneCell' = true)
    (h63 : n + m ≤ maxLen) (hbytes : (n + m) * bytes ≤ 140737488355328) (hbase : base ≤ w.heap.size)
    (h : ∀ v' w', w'.ownsRow base e size v' (n + m) (xs ++ news) → w.grownBy w' v.ownBlock → K (a.put o.dst v') w') : Oper.wp P o a w K Q := by
  cases ao with
  | some ad => exact wp_append_own w s x t ho base e i z size bytes ht hi hz hsize hby hzs hsz v n xs hs hown ad m c news hx hl (hnews ad rfl) h1 h63 hbytes hbase fun v' w' h2 h3 _ => h v' w' h2 h3
  | none =>
    obtain rfl := hnone rfl
    obtain rfl : news = [] := List.eq_nil_of_length_eq_zero (by simpa using hl)
    have hrun := run_append_none P base t o.type e i size c ht hi v n xs hown
    unfold Oper.wp
    simp [execOp, ho, resolve, invoke, builtin, hs, hx, hrun, Result.andThen]
    exact h v w (by simpa using hown) (World.grownBy.refl _ _)
theorem wpList_append_any {P : Program} (w : World) {ops : Array Oper} {rest : List Oper} {o : Oper} {a : Act} {Q : Exit → Act → World → Prop} (hgd : o.guard = none) (s x : Operand) (t : TypeId)
    (ho : o.op = .call { callee := .builtin .append, args := #[s, x], argTypes := #[t, t] })
    (base : Nat) (e : TypeId) (i : TypeInfo) (z : Value) (size bytes : Nat) (ht : P.underlying t = some (.slice e)) (hi : P.info? e = some i) (hz : i.zero = some z)
    (hsize : i.size = size) (hby : i.bytes = bytes) (hzs : z.cells.size = size) (hsz : 0 < size)
    (v : Value) (n : Nat) (xs : List Value) (hs : a.eval s = v) (hown : w.ownsRow base e size v n xs)
    (ao : Option Addr) (m c : Nat) (news : List Value) (hx : a.eval x = .slice ao m c) (hl : news.length = m * size) (hnone : ao = none → m = 0) (hnews : ∀ ad, ao = some ad → ∀ j u, news[j]? = some u → w.cell? (ad.add j) = some u) (h1 : ∀ u ∈ news, u.oneCell' = true)
    (h63 : n + m ≤ maxLen) (hbytes : (n + m) * bytes ≤ 140737488355328) (hbase : base ≤ w.heap.size)
    (h : ∀ v' w', w'.ownsRow base e size v' (n + m) (xs ++ news) → w.grownBy w' v.ownBlock → wpList P ops Q rest (a.put o.dst v') w') : wpList P ops Q (o :: rest) a w :=
  wpList_plain hgd fun _ hK => wp_append_any w s x t ho base e i z size bytes ht hi hz hsize hby hzs hsz v n xs hs hown ao m c news hx hl hnone hnews h1 h63 hbytes hbase fun v' w' h2 h3 => hK _ _ (h v' w' h2 h3)
theorem step_append_any {P : Program} (w : World) {ops : Array Oper} {o : Oper} {a : Act} {K : Act → World → Prop} {Q : Exit → Act → World → Prop} {X : Prop} (hgd : o.guard = none) (s x : Operand) (t : TypeId)
    (ho : o.op = .call { callee := .builtin .append, args := #[s, x], argTypes := #[t, t] })
    (base : Nat) (e : TypeId) (i : TypeInfo) (z : Value) (size bytes : Nat) (ht : P.underlying t = some (.slice e)) (hi : P.info? e = some i) (hz : i.zero = some z)
    (hsize : i.size = size) (hby : i.bytes = bytes) (hzs : z.cells.size = size) (hsz : 0 < size)
    (v : Value) (n : Nat) (xs : List Value) (hs : a.eval s = v) (hown : w.ownsRow base e size v n xs)
    (ao : Option Addr) (m c : Nat) (news : List Value) (hx : a.eval x = .slice ao m c) (hl : news.length = m * size) (hnone : ao = none → m = 0) (hnews : ∀ ad, ao = some ad → ∀ j u, news[j]? = some u → w.cell? (ad.add j) = some u) (h1 : ∀ u ∈ news, u.oneCell' = true)
    (h63 : n + m ≤ maxLen) (hbytes : (n + m) * bytes ≤ 140737488355328) (hbase : base ≤ w.heap.size)
    (h : ∀ v' w', w'.ownsRow base e size v' (n + m) (xs ++ news) → w.grownBy w' v.ownBlock → K (a.put o.dst v') w') :
    if Region.wanted o (yielded ops a.tmps) = true then Oper.wp P o a w K Q else X := by
  have hw : Region.wanted o (yielded ops a.tmps) = true := by simp [Region.wanted, hgd]
  rw [if_pos hw]
  exact wp_append_any w s x t ho base e i z size bytes ht hi hz hsize hby hzs hsz v n xs hs hown ao m c news hx hl hnone hnews h1 h63 hbytes hbase h
/-- A row's cells, as an append reads them. -/
theorem Row.news {W : World} {ao : Option Addr} {l : List ByteArray} {c : Nat} (h : Row W (.slice ao l.length c) l) : (ao = none → l.length = 0) ∧ ∀ ad, ao = some ad → ∀ j u, (strs l)[j]? = some u → W.cell? (ad.add j) = some u := by
  obtain ⟨a, c', he, hc⟩ := h
  injection he with h1 _ _
  subst h1
  constructor
  · rintro rfl
    cases l with
    | nil => rfl
    | cons x r => obtain ⟨g, h, _⟩ := hc 0 x rfl; cases h
  · rintro ad rfl j u hu
    unfold strs at hu
    rw [List.getElem?_map] at hu
    cases hx : l[j]? with
    | none => rw [hx] at hu; simp at hu
    | some x =>
      rw [hx] at hu
      obtain ⟨g, h, hcell⟩ := hc j x hx
      cases h
      rw [Addr.add_lit, Nat.zero_add, hcell]
      exact hu

theorem own_not_extE {w : World} {base B : Nat} {v : Value} {n : Nat} {xs : List Value} {cs : Array Value} (h : w.ownsRow base 9 1 v n xs) (hB : w.heap[B]? = some (.cells cs 43 (0, 0))) : v.ownBlock ≠ some B := by
  rcases h.2 with ⟨rfl, _⟩ | ⟨g, c, cur, rfl, _, hg, _⟩
  · simp [Value.ownBlock]
  · intro e
    have e : g = B := by simpa [Value.ownBlock] using e
    subst e
    rw [hB] at hg
    simp at hg
set_option maxRecDepth 100000 in
theorem there_own (s : ByteArray) (w : World) :
    Calls Try.prog 68 #[.string s] w fun e w' => ∃ u, e = .returned u ∧ Row w' u (oneT s) ∧ Below w.heap.size w w' := by
  by_cases h : s.size = 0
  · have he := empty_true h
    have HE := Lib.hid (show oneT s = [] by unfold oneT; rw [if_pos h])
    clear h
    go_enter Try.func68, Try.ntmps68
    go_wp2
    go_ret
    exact ⟨_, rfl, by rw [HE.out]; exact ⟨none, 0, rfl, fun i x h => by simp at h⟩, Below.refl _ _⟩
  · have he := empty_false (s := s) (by omega)
    have HE := Lib.hid (show oneT s = [s] by unfold oneT; rw [if_neg h])
    clear h
    go_enter Try.func68, Try.ntmps68
    go_wp2
    go_ret
    exact ⟨_, rfl, by rw [HE.out]; exact Row.of_block [s] _ _ rfl (World.alloc_heap_new w _), (Below.refl _ w).alloc (Nat.le_refl _) _⟩

set_option maxRecDepth 100000 in
theorem field1_own (v : Value) (T : TagM) (w : World) (hT : TagIs w v T) :
    Calls Try.prog 67 #[v] w fun e w' => ∃ u, e = .returned u ∧ Row w' u (oneT T.lang) ∧ Below w.heap.size w w' := by
  obtain ⟨ve, vv, vx, vp, rfl, R1, R2, R3, R4⟩ := hT
  obtain ⟨W0, hW0⟩ : ∃ W0, w.alloc (.cells #[.string T.lang, ve, .string T.script, .string T.region, vv, vx, vp, .string T.grand] 29) = W0 := ⟨_, rfl⟩
  have hb0 : Below w.heap.size w W0 := by rw [← hW0]; exact (Below.refl _ w).alloc (Nat.le_refl _) _
  have hh0 : W0.heap[w.heap.size]? = some (.cells #[.string T.lang, ve, .string T.script, .string T.region, vv, vx, vp, .string T.grand] 29 (0, 0)) := by rw [← hW0]; exact World.alloc_heap_new w _
  have hl0 := hb0.size
  obtain ⟨d0, d1, d2, d3, d4, d5, d6, d7⟩ := tag_cells hh0
  have HB0 := Lib.hid hb0
  have TH := Lib.hid (there_own T.lang W0)
  clear hh0 hb0 R1 R2 R3 R4
  go_enter Try.func67, Try.ntmps67
  go_wp2_with (go_at_call 68; (with_reducible refine TH.out.mono ?_); rintro e w5 ⟨u, rfl, hR, hb5⟩)
  go_ret
  exact ⟨_, rfl, hR, HB0.out.trans (hb5.mono hl0)⟩

set_option maxRecDepth 100000 in
theorem field3_own (v : Value) (T : TagM) (w : World) (hT : TagIs w v T) :
    Calls Try.prog 70 #[v] w fun e w' => ∃ u, e = .returned u ∧ Row w' u (oneT T.script) ∧ Below w.heap.size w w' := by
  obtain ⟨ve, vv, vx, vp, rfl, R1, R2, R3, R4⟩ := hT
  obtain ⟨W0, hW0⟩ : ∃ W0, w.alloc (.cells #[.string T.lang, ve, .string T.script, .string T.region, vv, vx, vp, .string T.grand] 29) = W0 := ⟨_, rfl⟩
  have hb0 : Below w.heap.size w W0 := by rw [← hW0]; exact (Below.refl _ w).alloc (Nat.le_refl _) _
  have hh0 : W0.heap[w.heap.size]? = some (.cells #[.string T.lang, ve, .string T.script, .string T.region, vv, vx, vp, .string T.grand] 29 (0, 0)) := by rw [← hW0]; exact World.alloc_heap_new w _
  have hl0 := hb0.size
  obtain ⟨d0, d1, d2, d3, d4, d5, d6, d7⟩ := tag_cells hh0
  have HB0 := Lib.hid hb0
  have TH := Lib.hid (there_own T.script W0)
  clear hh0 hb0 R1 R2 R3 R4
  go_enter Try.func70, Try.ntmps70
  go_wp2_with (go_at_call 68; (with_reducible refine TH.out.mono ?_); rintro e w5 ⟨u, rfl, hR, hb5⟩)
  go_ret
  exact ⟨_, rfl, hR, HB0.out.trans (hb5.mono hl0)⟩

set_option maxRecDepth 100000 in
theorem field4_own (v : Value) (T : TagM) (w : World) (hT : TagIs w v T) :
    Calls Try.prog 71 #[v] w fun e w' => ∃ u, e = .returned u ∧ Row w' u (oneT T.region) ∧ Below w.heap.size w w' := by
  obtain ⟨ve, vv, vx, vp, rfl, R1, R2, R3, R4⟩ := hT
  obtain ⟨W0, hW0⟩ : ∃ W0, w.alloc (.cells #[.string T.lang, ve, .string T.script, .string T.region, vv, vx, vp, .string T.grand] 29) = W0 := ⟨_, rfl⟩
  have hb0 : Below w.heap.size w W0 := by rw [← hW0]; exact (Below.refl _ w).alloc (Nat.le_refl _) _
  have hh0 : W0.heap[w.heap.size]? = some (.cells #[.string T.lang, ve, .string T.script, .string T.region, vv, vx, vp, .string T.grand] 29 (0, 0)) := by rw [← hW0]; exact World.alloc_heap_new w _
  have hl0 := hb0.size
  obtain ⟨d0, d1, d2, d3, d4, d5, d6, d7⟩ := tag_cells hh0
  have HB0 := Lib.hid hb0
  have TH := Lib.hid (there_own T.region W0)
  clear hh0 hb0 R1 R2 R3 R4
  go_enter Try.func71, Try.ntmps71
  go_wp2_with (go_at_call 68; (with_reducible refine TH.out.mono ?_); rintro e w5 ⟨u, rfl, hR, hb5⟩)
  go_ret
  exact ⟨_, rfl, hR, HB0.out.trans (hb5.mono hl0)⟩

set_option maxRecDepth 100000 in
theorem field2_own (v : Value) (T : TagM) (w : World) (hT : TagIs w v T) :
    Calls Try.prog 69 #[v] w fun e w' => ∃ u, e = .returned u ∧ Row w' u (T.extl) ∧ Below w.heap.size w w' := by
  obtain ⟨ve, vv, vx, vp, rfl, R1, R2, R3, R4⟩ := hT
  obtain ⟨W0, hW0⟩ : ∃ W0, w.alloc (.cells #[.string T.lang, ve, .string T.script, .string T.region, vv, vx, vp, .string T.grand] 29) = W0 := ⟨_, rfl⟩
  have hb0 : Below w.heap.size w W0 := by rw [← hW0]; exact (Below.refl _ w).alloc (Nat.le_refl _) _
  have hh0 : W0.heap[w.heap.size]? = some (.cells #[.string T.lang, ve, .string T.script, .string T.region, vv, vx, vp, .string T.grand] 29 (0, 0)) := by rw [← hW0]; exact World.alloc_heap_new w _
  have hl0 := hb0.size
  obtain ⟨d0, d1, d2, d3, d4, d5, d6, d7⟩ := tag_cells hh0
  have HB0 := Lib.hid hb0
  have HR := Lib.hid (R1.below hb0)
  clear hh0 hb0 R1 R2 R3 R4
  go_enter Try.func69, Try.ntmps69
  go_wp2_with fail
  go_ret
  exact ⟨_, rfl, HR.out, HB0.out⟩

set_option maxRecDepth 100000 in
theorem field5_own (v : Value) (T : TagM) (w : World) (hT : TagIs w v T) :
    Calls Try.prog 72 #[v] w fun e w' => ∃ u, e = .returned u ∧ Row w' u (T.vars) ∧ Below w.heap.size w w' := by
  obtain ⟨ve, vv, vx, vp, rfl, R1, R2, R3, R4⟩ := hT
  obtain ⟨W0, hW0⟩ : ∃ W0, w.alloc (.cells #[.string T.lang, ve, .string T.script, .string T.region, vv, vx, vp, .string T.grand] 29) = W0 := ⟨_, rfl⟩
  have hb0 : Below w.heap.size w W0 := by rw [← hW0]; exact (Below.refl _ w).alloc (Nat.le_refl _) _
  have hh0 : W0.heap[w.heap.size]? = some (.cells #[.string T.lang, ve, .string T.script, .string T.region, vv, vx, vp, .string T.grand] 29 (0, 0)) := by rw [← hW0]; exact World.alloc_heap_new w _
  have hl0 := hb0.size
  obtain ⟨d0, d1, d2, d3, d4, d5, d6, d7⟩ := tag_cells hh0
  have HB0 := Lib.hid hb0
  have HR := Lib.hid (R2.below hb0)
  clear hh0 hb0 R1 R2 R3 R4
  go_enter Try.func72, Try.ntmps72
  go_wp2_with fail
  go_ret
  exact ⟨_, rfl, HR.out, HB0.out⟩

set_option maxRecDepth 100000 in
theorem field7_own (v : Value) (T : TagM) (w : World) (hT : TagIs w v T) (hF : T.priv.length ≤ 1000) :
    Calls Try.prog 74 #[v] w fun e w' => ∃ u, e = .returned u ∧ Row w' u (privT T.priv) ∧ Below w.heap.size w w' := by
  obtain ⟨ve, vv, vx, vp, rfl, R1, R2, R3, R4⟩ := hT
  obtain ⟨W0, hW0⟩ : ∃ W0, w.alloc (.cells #[.string T.lang, ve, .string T.script, .string T.region, vv, vx, vp, .string T.grand] 29) = W0 := ⟨_, rfl⟩
  have hb0 : Below w.heap.size w W0 := by rw [← hW0]; exact (Below.refl _ w).alloc (Nat.le_refl _) _
  have hh0 : W0.heap[w.heap.size]? = some (.cells #[.string T.lang, ve, .string T.script, .string T.region, vv, vx, vp, .string T.grand] 29 (0, 0)) := by rw [← hW0]; exact World.alloc_heap_new w _
  have hl0 := hb0.size
  obtain ⟨d0, d1, d2, d3, d4, d5, d6, d7⟩ := tag_cells hh0
  have HB0 := Lib.hid hb0
  have HR := Lib.hid (R4.below hb0)
  obtain ⟨ao, c, rfl, _⟩ := R4
  obtain ⟨i0, hii, iz0, iz1, iz2⟩ := info_parts stringInfo
  by_cases h0 : T.priv.length = 0
  · have HE := Lib.hid (show privT T.priv = [] by unfold privT; rw [if_pos h0])
    have hz : ((T.priv.length : Int) == 0) = true := by rw [beq_iff_eq]; omega
    clear hh0 hb0 R1 R2 R3 h0
    go_enter Try.func74, Try.ntmps74
    go_wp2_with fail
    go_ret
    exact ⟨_, rfl, by rw [HE.out]; exact ⟨none, 0, rfl, fun i x h => by simp at h⟩, HB0.out⟩
  · have HE := Lib.hid (show privT T.priv = [⟨#[120]⟩] ++ T.priv by unfold privT; rw [if_neg h0]; rfl)
    have hz : ((T.priv.length : Int) == 0) = false := by rw [beq_eq_false_iff_ne]; omega
    have hbx : Below W0.heap.size W0 (W0.alloc (.cells #[.string ⟨#[120]⟩] 9)) := (Below.refl _ W0).alloc (Nat.le_refl _) _
    have c6 := (hbx.cell (p := ⟨w.heap.size, 6, none⟩) (lt_of_cellF d6)).trans d6
    have HN := Lib.hid ((HR.out.below hbx).news)
    have HO := Lib.hid (World.ownsRow_lit (base := W0.heap.size) (e := 9) (size := 1) W0 #[.string ⟨#[120]⟩] 1 (Nat.le_refl _) (by decide) rfl)
    clear hh0 hb0 R1 R2 R3 h0 hbx
    go_enter Try.func74, Try.ntmps74
    go_wp2_with (at_builtin; refine wpList_append_any _ rfl _ _ 26 rfl W0.heap.size 9 i0 (.string ByteArray.empty) 1 16 Try.underlying26 hii iz0 iz1 iz2 rfl (by decide) _ 1 _ rfl HO.out ao T.priv.length c (strs T.priv) rfl (by simp [strs]) HN.out.1 HN.out.2 (by intro u hu; unfold strs at hu; obtain ⟨_, _, rfl⟩ := List.mem_map.1 hu; rfl) (by unfold maxLen; omega) (by omega) (by simp) ?_; intro v' w7 hown7 hgrow7)
    go_ret
    refine ⟨_, rfl, ?_, ?_⟩
    · rw [HE.out]
      refine Row.of_own (base := W0.heap.size) ?_
      rw [List.length_append, strs_append]
      exact hown7
    · exact HB0.out.trans (((Below.refl w.heap.size W0).alloc hl0 _).grown hgrow7 (by simp; omega) (fun g hg => by have := (HO.out.lt g hg).1; omega))

set_option maxRecDepth 100000 in
set_option maxHeartbeats 4000000 in
theorem field6_own (v : Value) (T : TagM) (w : World) (hT : TagIs w v T) (hF : T.exts.length ≤ 100) (hS : ∀ x ∈ T.exts, x.2.length ≤ 100) :
    Calls Try.prog 73 #[v] w fun e w' => ∃ u, e = .returned u ∧ Row w' u (T.exts.flatMap extT) ∧ Below w.heap.size w w' := by
  obtain ⟨i0, hii, iz0, iz1, iz2⟩ := info_parts stringInfo
  obtain ⟨ve, vv, vx, vp, rfl, R1, R2, R3, R4⟩ := hT
  obtain ⟨W0, hW0⟩ : ∃ W0, w.alloc (.cells #[.string T.lang, ve, .string T.script, .string T.region, vv, vx, vp, .string T.grand] 29) = W0 := ⟨_, rfl⟩
  have hb0 : Below w.heap.size w W0 := by rw [← hW0]; exact (Below.refl _ w).alloc (Nat.le_refl _) _
  have hh0 : W0.heap[w.heap.size]? = some (.cells #[.string T.lang, ve, .string T.script, .string T.region, vv, vx, vp, .string T.grand] 29 (0, 0)) := by rw [← hW0]; exact World.alloc_heap_new w _
  have hl0 := hb0.size
  obtain ⟨d0, d1, d2, d3, d4, d5, d6, d7⟩ := tag_cells hh0
  have HB0 := Lib.hid hb0
  obtain ⟨ao, cp, rfl, K3⟩ := R3.below hb0
  have K3 := Lib.hid K3
  have HSL := Lib.hid hS
  clear hh0 hb0 R1 R2 R3 R4 hS
  go_enter Try.func73, Try.ntmps73
  go_wp2_with fail
  go_loopw [3, 9] (fun u i wr => ∃ k : Nat, k ≤ T.exts.length ∧ i = .int .i64 (k : Int) ∧ Acc W0 ((T.exts.take k).flatMap extT) u wr) (fun _ i _ => T.exts.length - (intOf i).toNat)
  case atStart => exact ⟨0, Nat.zero_le _, rfl, Acc.start W0⟩
  case round =>
    obtain ⟨k, hk, rfl, HA⟩ := hrel
    have hsz := HA.2.size
    by_cases hlt : k < T.exts.length
    · have hki : (k : Int) < (T.exts.length : Int) := by omega
      have hk0 : (0 : Int) ≤ (k : Int) := by omega
      obtain ⟨x, hx⟩ : ∃ x, T.exts[k]? = some x := ⟨_, List.getElem?_eq_getElem hlt⟩
      obtain ⟨g, us, rfl, c1, c2, r1⟩ := K3.out k x hx
      have hxl := HSL.out x (List.mem_of_getElem? hx)
      have c1 := (HA.2.cell (p := ⟨g, k * 2, none⟩) (lt_of_cellF c1)).trans c1
      have c2 := (HA.2.cell (p := ⟨g, k * 2 + 1, none⟩) (lt_of_cellF c2)).trans c2
      have hfl := flat_len T.exts HSL.out k
      have HNX := Lib.hid (show (T.exts.take (k + 1)).flatMap extT = (T.exts.take k).flatMap extT ++ ([x.1] ++ x.2) by rw [take_next hx, List.flatMap_append]; simp [extT])
      generalize (T.exts.take k).flatMap extT = L at *
      obtain ⟨ua, uc, rfl, _⟩ := r1
      have hr1 : Row W0 (.slice ua x.2.length uc) x.2 := ⟨ua, uc, rfl, by assumption⟩
      have HR1 := Lib.hid hr1
      go_upto_region 5 with fail
      obtain ⟨we, hwe⟩ : ∃ we, wr.alloc (.cells #[.string x.1, .slice ua x.2.length uc] 43) = we := ⟨_, rfl⟩
      have hE : we.heap[wr.heap.size]? = some (.cells #[.string x.1, .slice ua x.2.length uc] 43 (0, 0)) := by rw [← hwe]; exact World.alloc_heap_new wr _
      have hown : we.ownsRow W0.heap.size 9 1 u3 L.length (strs L) := by rw [← hwe]; exact HA.1.alloc _
      have hBe : Below W0.heap.size W0 we := by rw [← hwe]; exact HA.2.alloc hsz _
      have hse := hBe.size
      rw [hwe]
      have hEd : we.drew.heap[wr.heap.size]? = some (.cells #[.string x.1, .slice ua x.2.length uc] 43 (0, 0)) := hE
      have hBd : Below W0.heap.size W0 we.drew := Below.drew hBe
      have hownd : we.drew.ownsRow W0.heap.size 9 1 u3 L.length (strs L) := hown
      have hEl := lt_of_heap hEd
      have hEa := (Below.heap_alloc we.drew (.cells #[.string x.1] 9) _ hEl).trans hEd
      have hBa : Below W0.heap.size W0 (we.drew.alloc (.cells #[.string x.1] 9)) := hBd.alloc hBd.size _
      have q0 : we.drew.cell? ⟨wr.heap.size, 0, none⟩ = some (.string x.1) ∧ we.drew.cell? ⟨wr.heap.size, 1, none⟩ = some (.slice ua x.2.length uc) := by simp [World.cell?, hEd]
      have HCE := Lib.hid (fun (w' : World) (h : w'.heap[wr.heap.size]? = some (.cells #[.string x.1, .slice ua x.2.length uc] 43 (0, 0))) => show w'.cell? ⟨wr.heap.size, 0, none⟩ = some (.string x.1) ∧ w'.cell? ⟨wr.heap.size, 1, none⟩ = some (.slice ua x.2.length uc) by simp [World.cell?, h])
      obtain ⟨q1, q2⟩ := q0
      have hne : u3.ownBlock ≠ some wr.heap.size := by
        intro e
        have h1 := own_not_extE hownd hEd
        exact h1 e
      have HHE := Lib.hid hEa
      have HHA := Lib.hid hBa
      have HOW := Lib.hid hownd
      clear c1 c2 HA hE hown hBe hwe hEd hEa hr1
      go_region_held3 (fun w' => Below W0.heap.size W0 w' ∧ w'.cell? ⟨wr.heap.size, 0, none⟩ = some (.string x.1) ∧ w'.cell? ⟨wr.heap.size, 1, none⟩ = some (.slice ua x.2.length uc))
        (first | exact ⟨by assumption, by assumption, by assumption⟩ | exact ⟨hB6, HCE.out _ hE6⟩ | exact ⟨HHA.out, HCE.out _ HHE.out⟩)
        (first
          | ((refine step_append_lies _ (by rfl) _ _ 26 (by rfl) W0.heap.size 9 i0 (.string ByteArray.empty) 1 16 Try.underlying26 hii iz0 iz1 iz2 (by rfl) (by decide) _ L.length _ (by rfl) (HOW.out.alloc _) _ 1 1 [.string x.1] (by rfl) (by rfl) (World.news_of_block (World.alloc_heap_new _ _)) (by intro u hu; simp at hu; subst hu; rfl) (by decide) (by unfold maxLen; omega) (by omega) (by simp; omega) _ rfl ?_); intro g6 cap6 w6 hown6 hgrow6 _ _; have hE6 := (hgrow6.block _ (lt_of_heap HHE.out) (fun e => hne e.symm)).trans HHE.out; have hB6 := HHA.out.grown hgrow6 HHA.out.size (fun g hg => (HOW.out.lt g hg).1); have hne6 := own_not_extE hown6 hE6; have HN6 := Lib.hid ((HR1.out.below hB6).news); have hs6 := hB6.size)
          | ((refine step_append_any _ (by rfl) _ _ 26 (by rfl) W0.heap.size 9 i0 (.string ByteArray.empty) 1 16 Try.underlying26 hii iz0 iz1 iz2 (by rfl) (by decide) _ (L.length + 1) _ (by rfl) hown6 ua x.2.length uc (strs x.2) (by rfl) (by simp [strs]) HN6.out.1 HN6.out.2 (by intro u hu; unfold strs at hu; obtain ⟨_, _, rfl⟩ := List.mem_map.1 hu; rfl) (by unfold maxLen; omega) (by omega) hs6 ?_); intro v7 w7 hown7 hgrow7; have hE6 := (hgrow7.block _ (lt_of_heap hE6) (fun e => hne6 e.symm)).trans hE6; have hB6 := hB6.grown hgrow7 hB6.size (fun g hg => (hown6.lt g hg).1)))
      go_wp2_with fail
      go_roundw
      case rel =>
        refine ⟨k + 1, by omega, by go_num, ?_, hB6⟩
        rw [HNX.out, List.length_append, List.length_append, strs_append, strs_append, ← List.append_assoc, ← Nat.add_assoc]
        exact hown7
      case measure => simp [intOf]; omega
    · obtain rfl : k = T.exts.length := by omega
      have hki : ¬ (T.exts.length : Int) < (T.exts.length : Int) := by omega
      rw [List.take_of_length_le (Nat.le_refl _)] at HA
      go_wp2_with fail
      go_ret
      exact ⟨_, rfl, Row.of_own HA.1, HB0.out.trans (HA.2.mono hl0)⟩
end Go.Proofs.Ytpnhjpplfjamkaa

/-! The project's Subtags. -/
namespace Go.Proofs.Ytpnhjpplfjamkaa
open Go Go.RowKit

/-- All texts of a row of extensions. -/
def flatT (l : List (ByteArray × List ByteArray)) : List ByteArray := l.flatMap extT
def fieldsT (T : TagM) : List (List ByteArray) := [oneT T.lang, T.extl, oneT T.script, oneT T.region, T.vars, flatT T.exts, privT T.priv]
theorem subtagsT_fields (T : TagM) (h : T.grand.size = 0) : subtagsT T = (fieldsT T).flatten := by
  unfold subtagsT fieldsT
  rw [if_pos h]
  simp [List.append_assoc, flatT]
theorem fields_len (T : TagM) (hF : TagFits T) : ∀ l ∈ fieldsT T, l.length ≤ 10200 := by
  obtain ⟨F1, F2, F3, F4, F5, F6⟩ := hF
  intro l hl
  have h6 := flat_len T.exts F4 T.exts.length
  rw [List.take_of_length_le (Nat.le_refl _)] at h6
  have h6 : (flatT T.exts).length ≤ 101 * T.exts.length := h6
  have h7 : (privT T.priv).length ≤ 101 := by unfold privT; split <;> simp; omega
  have h1 := oneT_len T.lang
  have h3 := oneT_len T.script
  have h4 := oneT_len T.region
  simp [fieldsT] at hl
  rcases hl with rfl | rfl | rfl | rfl | rfl | rfl | rfl <;> omega
theorem take_len (T : TagM) (hF : TagFits T) (k : Nat) : ((fieldsT T).take k).flatten.length ≤ 71400 := by
  have : ∀ (ls : List (List ByteArray)), (∀ l ∈ ls, l.length ≤ 10200) → ls.flatten.length ≤ 10200 * ls.length := by
    intro ls
    induction ls with
    | nil => intro _; simp
    | cons a r ih =>
      intro h
      have h1 := h a (List.mem_cons_self ..)
      have h2 := ih (fun l hl => h l (List.mem_cons_of_mem _ hl))
      rw [List.flatten_cons, List.length_append, List.length_cons]
      omega
  have h1 := this ((fieldsT T).take k) (fun l hl => fields_len T hF l (List.mem_of_mem_take hl))
  rw [List.length_take] at h1
  have : (fieldsT T).length = 7 := rfl
  omega
set_option maxRecDepth 100000 in
theorem fields_own (w : World) :
    Calls Try.prog 53 #[] w fun e w' => e = .returned (.slice (some ⟨w.heap.size, 0, none⟩) 7 7) ∧ w.alloc (.cells #[.func (.func 67) #[] #[], .func (.func 69) #[] #[], .func (.func 70) #[] #[], .func (.func 71) #[] #[], .func (.func 72) #[] #[], .func (.func 73) #[] #[], .func (.func 74) #[] #[]] 75) = w' := by
  go_enter Try.func53, Try.ntmps53
  go_wp2
  go_ret
  exact ⟨rfl, rfl⟩

theorem Row.news' {W : World} {v : Value} {l : List ByteArray} (h : Row W v l) : ∀ ao c, v = .slice ao l.length c → (ao = none → l.length = 0) ∧ ∀ ad, ao = some ad → ∀ j u, (strs l)[j]? = some u → W.cell? (ad.add j) = some u := by
  rintro ao c rfl
  exact h.news
set_option maxRecDepth 100000 in
set_option maxHeartbeats 8000000 in
theorem subtags_own (v : Value) (T : TagM) (w : World) (hT : TagIs w v T) (hF : TagFits T) :
    Calls Try.prog 40 #[v] w fun e w' => ∃ u, e = .returned u ∧ w'.ownsRow w.heap.size 9 1 u (subtagsT T).length (strs (subtagsT T)) ∧ Below w.heap.size w w' := by
  obtain ⟨i0, hii, iz0, iz1, iz2⟩ := info_parts stringInfo
  have hT0 := hT
  obtain ⟨ve, vv, vx, vp, rfl, -, -, -, -⟩ := hT
  obtain ⟨W0, hW0⟩ : ∃ W0, w.alloc (.cells #[.string T.lang, ve, .string T.script, .string T.region, vv, vx, vp, .string T.grand] 29) = W0 := ⟨_, rfl⟩
  have hbw : Below w.heap.size w W0 := by rw [← hW0]; exact (Below.refl _ w).alloc (Nat.le_refl _) _
  have hz0 : w.heap.size < W0.heap.size := by rw [← hW0]; simp
  have hh0 : W0.heap[w.heap.size]? = some (.cells #[.string T.lang, ve, .string T.script, .string T.region, vv, vx, vp, .string T.grand] 29 (0, 0)) := by rw [← hW0]; exact World.alloc_heap_new w _
  have hl0 := hbw.size
  obtain ⟨d0, d1, d2, d3, d4, d5, d6, d7⟩ := tag_cells hh0
  have HB0 := Lib.hid hbw
  by_cases hgr : T.grand.size = 0
  · have he := empty_true hgr
    have HSUB := Lib.hid (subtagsT_fields T hgr)
    have F1 := Lib.hid (fun w5 (hb : Below W0.heap.size W0 w5) => field1_own (.agg #[.string T.lang, ve, .string T.script, .string T.region, vv, vx, vp, .string T.grand]) T w5 (hT0.below (hbw.trans (hb.mono hl0))))
    have F2 := Lib.hid (fun w5 (hb : Below W0.heap.size W0 w5) => field2_own (.agg #[.string T.lang, ve, .string T.script, .string T.region, vv, vx, vp, .string T.grand]) T w5 (hT0.below (hbw.trans (hb.mono hl0))))
    have F3 := Lib.hid (fun w5 (hb : Below W0.heap.size W0 w5) => field3_own (.agg #[.string T.lang, ve, .string T.script, .string T.region, vv, vx, vp, .string T.grand]) T w5 (hT0.below (hbw.trans (hb.mono hl0))))
    have F4 := Lib.hid (fun w5 (hb : Below W0.heap.size W0 w5) => field4_own (.agg #[.string T.lang, ve, .string T.script, .string T.region, vv, vx, vp, .string T.grand]) T w5 (hT0.below (hbw.trans (hb.mono hl0))))
    have F5 := Lib.hid (fun w5 (hb : Below W0.heap.size W0 w5) => field5_own (.agg #[.string T.lang, ve, .string T.script, .string T.region, vv, vx, vp, .string T.grand]) T w5 (hT0.below (hbw.trans (hb.mono hl0))))
    have F6 := Lib.hid (fun w5 (hb : Below W0.heap.size W0 w5) => field6_own (.agg #[.string T.lang, ve, .string T.script, .string T.region, vv, vx, vp, .string T.grand]) T w5 (hT0.below (hbw.trans (hb.mono hl0))) hF.2.2.1 hF.2.2.2.1)
    rw [show T.exts.flatMap extT = flatT T.exts from rfl] at F6
    have F7 := Lib.hid (fun w5 (hb : Below W0.heap.size W0 w5) => field7_own (.agg #[.string T.lang, ve, .string T.script, .string T.region, vv, vx, vp, .string T.grand]) T w5 (hT0.below (hbw.trans (hb.mono hl0))) (by have := hF.2.2.2.2.1; omega))
    have HFL := Lib.hid (fields_len T hF)
    have HTL := Lib.hid (take_len T hF)
    clear hT0 hgr hF
    have hfo := Lib.hid (fields_own W0)
    obtain ⟨W1, hW1⟩ : ∃ W1, W0.alloc (.cells #[.func (.func 67) #[] #[], .func (.func 69) #[] #[], .func (.func 70) #[] #[], .func (.func 71) #[] #[], .func (.func 72) #[] #[], .func (.func 73) #[] #[], .func (.func 74) #[] #[]] 75) = W1 := ⟨_, rfl⟩
    have hb1 : Below W0.heap.size W0 W1 := by rw [← hW1]; exact (Below.refl _ W0).alloc (Nat.le_refl _) _
    have hf1 : W1.heap[W0.heap.size]? = some (.cells #[.func (.func 67) #[] #[], .func (.func 69) #[] #[], .func (.func 70) #[] #[], .func (.func 71) #[] #[], .func (.func 72) #[] #[], .func (.func 73) #[] #[], .func (.func 74) #[] #[]] 75 (0, 0)) := by rw [← hW1]; exact World.alloc_heap_new W0 _
    rw [hW1] at hfo
    have hz1 : W0.heap.size < W1.heap.size := by rw [← hW1]; simp
    have HH := Lib.hid (fun wr (hb : Below W0.heap.size W0 wr) => tag_cells ((hb.block _ hz0).trans hh0))
    have HF1 := Lib.hid (fun wr (hb : Below W1.heap.size W1 wr) => (hb.block _ hz1).trans hf1)
    have HB1 := Lib.hid hb1
    have hs1 := hb1.size
    clear hh0 hf1 hb1 hW1 hbw
    go_enter Try.func40, Try.ntmps40
    go_wp2_with (go_at_call 53; (with_reducible refine hfo.out.mono ?_); rintro e w5 ⟨rfl, rfl⟩)
    go_loopw [3, 14] (fun u i wr => ∃ k : Nat, k ≤ 7 ∧ i = .int .i64 (k : Int) ∧ Acc W1 ((fieldsT T).take k).flatten u wr) (fun _ i _ => 7 - (intOf i).toNat)
    case atStart => exact ⟨0, by omega, rfl, Acc.start W1⟩
    case round =>
      obtain ⟨k, hk, rfl, HA⟩ := hrel
      have hsz := HA.2.size
      by_cases hlt : k < 7
      · have hk7 : k = 0 ∨ k = 1 ∨ k = 2 ∨ k = 3 ∨ k = 4 ∨ k = 5 ∨ k = 6 := by omega
        have hBr := HB1.out.trans (HA.2.mono hs1)
        obtain ⟨e0, e1, e2, e3, e4, e5, e6, e7⟩ := HH.out wr hBr
        have hfr := HF1.out wr HA.2
        have hfc : wr.cell? ⟨W0.heap.size, 0, none⟩ = some (.func (.func 67) #[] #[]) ∧ wr.cell? ⟨W0.heap.size, 1, none⟩ = some (.func (.func 69) #[] #[]) ∧ wr.cell? ⟨W0.heap.size, 2, none⟩ = some (.func (.func 70) #[] #[]) ∧ wr.cell? ⟨W0.heap.size, 3, none⟩ = some (.func (.func 71) #[] #[]) ∧ wr.cell? ⟨W0.heap.size, 4, none⟩ = some (.func (.func 72) #[] #[]) ∧ wr.cell? ⟨W0.heap.size, 5, none⟩ = some (.func (.func 73) #[] #[]) ∧ wr.cell? ⟨W0.heap.size, 6, none⟩ = some (.func (.func 74) #[] #[]) := by simp [World.cell?, hfr]
        obtain ⟨g0, g1, g2, g3, g4, g5, g6⟩ := hfc
        have hBd : Below W0.heap.size W0 wr := hBr
        have HOW := Lib.hid HA.1
        have HB1d := Lib.hid HA.2
        have hlen := HTL.out k
        have HNX := Lib.hid (fun (f : List ByteArray) (h : (fieldsT T)[k]? = some f) => show ((fieldsT T).take (k + 1)).flatten = ((fieldsT T).take k).flatten ++ f by rw [take_next h, List.flatten_append]; simp)
        clear HA hfr hlt
        generalize ((fieldsT T).take k).flatten = L at *
        rcases hk7 with rfl | rfl | rfl | rfl | rfl | rfl | rfl
        · have hml := HFL.out (oneT T.lang) (by simp [fieldsT])
          have hnx := Lib.hid (HNX.out (oneT T.lang) rfl)
          clear HNX HFL HTL HSUB HF1
          go_wp2_with (first | (go_at_call 67; (with_reducible refine (F1.out _ hBd).mono ?_); rintro e w6 ⟨u, rfl, hR, hb6⟩; have HRu := Lib.hid hR.news'; obtain ⟨ua, uc, rfl, _⟩ := hR; have hown6 := ownsRow_belowF HOW.out hb6; have hB6 := hBd.trans (hb6.mono hBd.size); have hs6 := Nat.le_trans HB1d.out.size hb6.size; have hs6' := hB6.size) | (at_builtin; refine wpList_append_any _ rfl _ _ 26 rfl W1.heap.size 9 i0 (.string ByteArray.empty) 1 16 Try.underlying26 hii iz0 iz1 iz2 rfl (by decide) _ L.length _ rfl hown6 ua _ uc (strs (oneT T.lang)) rfl (by simp [strs]) (HRu.out ua uc rfl).1 (HRu.out ua uc rfl).2 (by intro u hu; unfold strs at hu; obtain ⟨_, _, rfl⟩ := List.mem_map.1 hu; rfl) (by unfold maxLen; omega) (by omega) hs6 ?_; intro v7 w7 hown7 hgrow7; have hB7 := hB6.grown hgrow7 hs6' (fun g hg => by have := (hown6.lt g hg).1; omega)))
          go_roundw
          case rel =>
            refine ⟨1, by omega, by go_num, ?_, (HB1d.out.trans (hb6.mono HB1d.out.size)).grown hgrow7 hs6 (fun g hg => (hown6.lt g hg).1)⟩
            rw [hnx.out, List.length_append, strs_append]
            exact hown7
          case measure => simp [intOf]
        · have hml := HFL.out (T.extl) (by simp [fieldsT])
          have hnx := Lib.hid (HNX.out (T.extl) rfl)
          clear HNX HFL HTL HSUB HF1
          go_wp2_with (first | (go_at_call 69; (with_reducible refine (F2.out _ hBd).mono ?_); rintro e w6 ⟨u, rfl, hR, hb6⟩; have HRu := Lib.hid hR.news'; obtain ⟨ua, uc, rfl, _⟩ := hR; have hown6 := ownsRow_belowF HOW.out hb6; have hB6 := hBd.trans (hb6.mono hBd.size); have hs6 := Nat.le_trans HB1d.out.size hb6.size; have hs6' := hB6.size) | (at_builtin; refine wpList_append_any _ rfl _ _ 26 rfl W1.heap.size 9 i0 (.string ByteArray.empty) 1 16 Try.underlying26 hii iz0 iz1 iz2 rfl (by decide) _ L.length _ rfl hown6 ua _ uc (strs (T.extl)) rfl (by simp [strs]) (HRu.out ua uc rfl).1 (HRu.out ua uc rfl).2 (by intro u hu; unfold strs at hu; obtain ⟨_, _, rfl⟩ := List.mem_map.1 hu; rfl) (by unfold maxLen; omega) (by omega) hs6 ?_; intro v7 w7 hown7 hgrow7; have hB7 := hB6.grown hgrow7 hs6' (fun g hg => by have := (hown6.lt g hg).1; omega)))
          go_roundw
          case rel =>
            refine ⟨2, by omega, by go_num, ?_, (HB1d.out.trans (hb6.mono HB1d.out.size)).grown hgrow7 hs6 (fun g hg => (hown6.lt g hg).1)⟩
            rw [hnx.out, List.length_append, strs_append]
            exact hown7
          case measure => simp [intOf]
        · have hml := HFL.out (oneT T.script) (by simp [fieldsT])
          have hnx := Lib.hid (HNX.out (oneT T.script) rfl)
          clear HNX HFL HTL HSUB HF1
          go_wp2_with (first | (go_at_call 70; (with_reducible refine (F3.out _ hBd).mono ?_); rintro e w6 ⟨u, rfl, hR, hb6⟩; have HRu := Lib.hid hR.news'; obtain ⟨ua, uc, rfl, _⟩ := hR; have hown6 := ownsRow_belowF HOW.out hb6; have hB6 := hBd.trans (hb6.mono hBd.size); have hs6 := Nat.le_trans HB1d.out.size hb6.size; have hs6' := hB6.size) | (at_builtin; refine wpList_append_any _ rfl _ _ 26 rfl W1.heap.size 9 i0 (.string ByteArray.empty) 1 16 Try.underlying26 hii iz0 iz1 iz2 rfl (by decide) _ L.length _ rfl hown6 ua _ uc (strs (oneT T.script)) rfl (by simp [strs]) (HRu.out ua uc rfl).1 (HRu.out ua uc rfl).2 (by intro u hu; unfold strs at hu; obtain ⟨_, _, rfl⟩ := List.mem_map.1 hu; rfl) (by unfold maxLen; omega) (by omega) hs6 ?_; intro v7 w7 hown7 hgrow7; have hB7 := hB6.grown hgrow7 hs6' (fun g hg => by have := (hown6.lt g hg).1; omega)))
          go_roundw
          case rel =>
            refine ⟨3, by omega, by go_num, ?_, (HB1d.out.trans (hb6.mono HB1d.out.size)).grown hgrow7 hs6 (fun g hg => (hown6.lt g hg).1)⟩
            rw [hnx.out, List.length_append, strs_append]
            exact hown7
          case measure => simp [intOf]
        · have hml := HFL.out (oneT T.region) (by simp [fieldsT])
          have hnx := Lib.hid (HNX.out (oneT T.region) rfl)
          clear HNX HFL HTL HSUB HF1
          go_wp2_with (first | (go_at_call 71; (with_reducible refine (F4.out _ hBd).mono ?_); rintro e w6 ⟨u, rfl, hR, hb6⟩; have HRu := Lib.hid hR.news'; obtain ⟨ua, uc, rfl, _⟩ := hR; have hown6 := ownsRow_belowF HOW.out hb6; have hB6 := hBd.trans (hb6.mono hBd.size); have hs6 := Nat.le_trans HB1d.out.size hb6.size; have hs6' := hB6.size) | (at_builtin; refine wpList_append_any _ rfl _ _ 26 rfl W1.heap.size 9 i0 (.string ByteArray.empty) 1 16 Try.underlying26 hii iz0 iz1 iz2 rfl (by decide) _ L.length _ rfl hown6 ua _ uc (strs (oneT T.region)) rfl (by simp [strs]) (HRu.out ua uc rfl).1 (HRu.out ua uc rfl).2 (by intro u hu; unfold strs at hu; obtain ⟨_, _, rfl⟩ := List.mem_map.1 hu; rfl) (by unfold maxLen; omega) (by omega) hs6 ?_; intro v7 w7 hown7 hgrow7; have hB7 := hB6.grown hgrow7 hs6' (fun g hg => by have := (hown6.lt g hg).1; omega)))
          go_roundw
          case rel =>
            refine ⟨4, by omega, by go_num, ?_, (HB1d.out.trans (hb6.mono HB1d.out.size)).grown hgrow7 hs6 (fun g hg => (hown6.lt g hg).1)⟩
            rw [hnx.out, List.length_append, strs_append]
            exact hown7
          case measure => simp [intOf]
        · have hml := HFL.out (T.vars) (by simp [fieldsT])
          have hnx := Lib.hid (HNX.out (T.vars) rfl)
          clear HNX HFL HTL HSUB HF1
          go_wp2_with (first | (go_at_call 72; (with_reducible refine (F5.out _ hBd).mono ?_); rintro e w6 ⟨u, rfl, hR, hb6⟩; have HRu := Lib.hid hR.news'; obtain ⟨ua, uc, rfl, _⟩ := hR; have hown6 := ownsRow_belowF HOW.out hb6; have hB6 := hBd.trans (hb6.mono hBd.size); have hs6 := Nat.le_trans HB1d.out.size hb6.size; have hs6' := hB6.size) | (at_builtin; refine wpList_append_any _ rfl _ _ 26 rfl W1.heap.size 9 i0 (.string ByteArray.empty) 1 16 Try.underlying26 hii iz0 iz1 iz2 rfl (by decide) _ L.length _ rfl hown6 ua _ uc (strs (T.vars)) rfl (by simp [strs]) (HRu.out ua uc rfl).1 (HRu.out ua uc rfl).2 (by intro u hu; unfold strs at hu; obtain ⟨_, _, rfl⟩ := List.mem_map.1 hu; rfl) (by unfold maxLen; omega) (by omega) hs6 ?_; intro v7 w7 hown7 hgrow7; have hB7 := hB6.grown hgrow7 hs6' (fun g hg => by have := (hown6.lt g hg).1; omega)))
          go_roundw
          case rel =>
            refine ⟨5, by omega, by go_num, ?_, (HB1d.out.trans (hb6.mono HB1d.out.size)).grown hgrow7 hs6 (fun g hg => (hown6.lt g hg).1)⟩
            rw [hnx.out, List.length_append, strs_append]
            exact hown7
          case measure => simp [intOf]
        · have hml := HFL.out (flatT T.exts) (by simp [fieldsT])
          have hnx := Lib.hid (HNX.out (flatT T.exts) rfl)
          clear HNX HFL HTL HSUB HF1
          go_wp2_with (first | (go_at_call 73; (with_reducible refine (F6.out _ hBd).mono ?_); rintro e w6 ⟨u, rfl, hR, hb6⟩; have HRu := Lib.hid hR.news'; obtain ⟨ua, uc, rfl, _⟩ := hR; have hown6 := ownsRow_belowF HOW.out hb6; have hB6 := hBd.trans (hb6.mono hBd.size); have hs6 := Nat.le_trans HB1d.out.size hb6.size; have hs6' := hB6.size) | (at_builtin; refine wpList_append_any _ rfl _ _ 26 rfl W1.heap.size 9 i0 (.string ByteArray.empty) 1 16 Try.underlying26 hii iz0 iz1 iz2 rfl (by decide) _ L.length _ rfl hown6 ua _ uc (strs (flatT T.exts)) rfl (by simp [strs]) (HRu.out ua uc rfl).1 (HRu.out ua uc rfl).2 (by intro u hu; unfold strs at hu; obtain ⟨_, _, rfl⟩ := List.mem_map.1 hu; rfl) (by unfold maxLen; omega) (by omega) hs6 ?_; intro v7 w7 hown7 hgrow7; have hB7 := hB6.grown hgrow7 hs6' (fun g hg => by have := (hown6.lt g hg).1; omega)))
          go_roundw
          case rel =>
            refine ⟨6, by omega, by go_num, ?_, (HB1d.out.trans (hb6.mono HB1d.out.size)).grown hgrow7 hs6 (fun g hg => (hown6.lt g hg).1)⟩
            rw [hnx.out, List.length_append, strs_append]
            exact hown7
          case measure => simp [intOf]
        · have hml := HFL.out (privT T.priv) (by simp [fieldsT])
          have hnx := Lib.hid (HNX.out (privT T.priv) rfl)
          clear HNX HFL HTL HSUB HF1
          go_wp2_with (first | (go_at_call 74; (with_reducible refine (F7.out _ hBd).mono ?_); rintro e w6 ⟨u, rfl, hR, hb6⟩; have HRu := Lib.hid hR.news'; obtain ⟨ua, uc, rfl, _⟩ := hR; have hown6 := ownsRow_belowF HOW.out hb6; have hB6 := hBd.trans (hb6.mono hBd.size); have hs6 := Nat.le_trans HB1d.out.size hb6.size; have hs6' := hB6.size) | (at_builtin; refine wpList_append_any _ rfl _ _ 26 rfl W1.heap.size 9 i0 (.string ByteArray.empty) 1 16 Try.underlying26 hii iz0 iz1 iz2 rfl (by decide) _ L.length _ rfl hown6 ua _ uc (strs (privT T.priv)) rfl (by simp [strs]) (HRu.out ua uc rfl).1 (HRu.out ua uc rfl).2 (by intro u hu; unfold strs at hu; obtain ⟨_, _, rfl⟩ := List.mem_map.1 hu; rfl) (by unfold maxLen; omega) (by omega) hs6 ?_; intro v7 w7 hown7 hgrow7; have hB7 := hB6.grown hgrow7 hs6' (fun g hg => by have := (hown6.lt g hg).1; omega)))
          go_roundw
          case rel =>
            refine ⟨7, by omega, by go_num, ?_, (HB1d.out.trans (hb6.mono HB1d.out.size)).grown hgrow7 hs6 (fun g hg => (hown6.lt g hg).1)⟩
            rw [hnx.out, List.length_append, strs_append]
            exact hown7
          case measure => simp [intOf]
      · obtain rfl : k = 7 := by omega
        have hki : ¬ ((7 : Nat) : Int) < (7 : Int) := by omega
        go_wp2_with fail
        go_ret
        refine ⟨_, rfl, ?_, HB0.out.trans ((HB1.out.mono hl0).trans (HA.2.mono (by omega)))⟩
        rw [HSUB.out]
        exact own_lower HA.1 (by omega)
  · have he := empty_false (s := T.grand) (by omega)
    have HE := Lib.hid (show subtagsT T = splS T.grand by unfold subtagsT; rw [if_neg hgr])
    have SP := Lib.hid (split_any T.grand W0 (by have := hF.2.2.2.2.2; omega))
    clear hT0 hgr hF hh0 hbw
    go_enter Try.func40, Try.ntmps40
    go_wp2_with (go_at_call 52; (with_reducible refine SP.out.mono ?_); rintro e w5 ⟨u, rfl, ho, hb5⟩)
    go_ret
    exact ⟨_, rfl, by rw [HE.out]; exact own_lower ho (by omega), HB0.out.trans (hb5.mono hl0)⟩
end Go.Proofs.Ytpnhjpplfjamkaa
