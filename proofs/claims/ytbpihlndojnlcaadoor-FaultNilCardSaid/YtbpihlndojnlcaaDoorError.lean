/-
  Package fault: Error of a fault that has none within.
-/
import Derived.Test.YtbpihlndojnlcaaDoorKind
import Derived.Test.YtbpihlndojnlcaaDoorBuild
import Derived.Test.YtbpihlndojnlcaaDoorShelf
import Derived.WalkSmall
import Derived.Lib.AppendIntMem
import Derived.Lib.ItoaLen
namespace Go.Proofs.YtbpihlndojnlcaaDoor
open Go Go.RowKit

attribute [local go_sem] Oper.semAt_some

def TabLaid (w : World) : Prop := Lib.TabIs Tryd.prog w "internal/strconv.uint64pow10" .u64 Lib.pow10Tab
theorem tabGlobal : Tryd.prog.globalNamed "internal/strconv.uint64pow10" = some 1 := by kernel_rfl
theorem TabLaid.below {B : Nat} {w w' : World} (h : TabLaid w) (hb : Below B w w') (hB : 1 < B) : TabLaid w' := var?_below hb tabGlobal hB h

/-- What a round of Error may turn: rows of bytes. -/
def frB : Obj → Bool
  | .cells _ t _ => t == 5
  | _ => false
theorem frB_cells (o : Obj) (h : frB o = true) : o.isCells = true := by
  cases o <;> first | rfl | cases h
theorem keep_of_others {lo hi b : Nat} {A B : World} (h : Below b A B) (ho : Lib.OthersKept 5 (some b) A B) (hlo : lo ≤ b) (hb : b < hi) : Keep lo hi frB A B :=
  ⟨h.os, h.tape, h.output, h.size, fun k o hk hr => by
    rcases hr with hr | ⟨hr, hf⟩
    · exact (h.block k (by omega)).trans hk
    · refine ho k o hk (fun e => by cases e; omega) (fun c fz e => ?_)
      subst e
      simp [frB] at hf⟩
theorem builder_own {b B : Nat} {bs : List Value} : ∀ X Y row, Lib.IsBuilderF 65 5 B b bs X → X.grownBy Y row → (∀ r, row = some r → ∃ o : Obj, X.heap[r]? = some o ∧ o.isCells = false) → Lib.IsBuilderF 65 5 B b bs Y := by
  have one : ∀ p X Y row, Lib.BuilderAtF 65 5 B b p bs X → X.grownBy Y row → (∀ r, row = some r → ∃ o : Obj, X.heap[r]? = some o ∧ o.isCells = false) → Lib.BuilderAtF 65 5 B b p bs Y := by
    rintro p X Y row ⟨hB, v, hb, hown, hne⟩ hg hr
    refine ⟨hB, v, (hg.block b (Array.getElem?_eq_some_iff.1 hb).1 (fun e => ?_)).trans hb, hown.kept hg ?_, hne⟩
    · obtain ⟨o, ho, hc⟩ := hr b e.symm
      rw [hb] at ho; cases ho; simp [Obj.isCells] at hc
    · rcases hown.2 with ⟨rfl, _⟩ | ⟨g, cap, cur, fz, rfl, _, hgb, _⟩
      · exact .inl rfl
      · refine .inr (fun e => ?_)
        obtain ⟨o, ho, hc⟩ := hr g e.symm
        rw [hgb] at ho; cases ho; simp [Obj.isCells] at hc
  intro X Y row h hg hr
  rcases h with h | h
  · exact .inl (one _ X Y row h hg hr)
  · exact .inr (one _ X Y row h hg hr)

/-- What one fault tells, up to its inner one. -/
def says (p : Int) (s : ByteArray) : List UInt8 := s.data.toList ++ [32, 97, 116, 32] ++ Lib.itoa p ++ [58, 32]
def ErI (w : World) (p : Int) (s : ByteArray) (pre : List El) (W : World) : Prop :=
  Lib.IsBuilderF 65 5 (w.heap.size + 2) (w.heap.size + 2) (Lib.byteCells (if pre = [] then [] else says p s)) W ∧ Below w.heap.size w W ∧ W.heap[w.heap.size + 1]? = some (.cells #[.string ({ data := #[] } : ByteArray)] 9 (0, 0)) ∧ w.heap.size + 4 ≤ W.heap.size

/-- Where Error stands: the builder's bytes so far; what a round has left alone. -/
structure ErS (w W3 : World) (hi : Nat) (l : List UInt8) (W : World) : Prop where
  bd : Lib.IsBuilderF 65 5 (w.heap.size + 2) (w.heap.size + 2) (Lib.byteCells l) W
  kp : Keep w.heap.size hi frB W3 W
  bl : Below w.heap.size w W
  re : W.heap[w.heap.size + 1]? = some (.cells #[.string ({ data := #[] } : ByteArray)] 9 (0, 0))
  sz : w.heap.size + 4 ≤ W.heap.size

theorem ErS.calm {w W3 W W' : World} {hi : Nat} {l : List UInt8} (h : ErS w W3 hi l W) (hb : Below W.heap.size W W') : ErS w W3 hi l W' :=
  ⟨builder_own W W' none h.bd (grown_of_below hb) (fun r e => by cases e), h.kp.trans (Keep.of_below hb), h.bl.trans (hb.mono (by have := h.sz; omega)), (hb.block _ (by have := h.sz; omega)).trans h.re, Nat.le_trans h.sz hb.size⟩

theorem er_ws {w W3 W : World} {hi : Nat} {l : List UInt8} (h : ErS w W3 hi l W) (t : ByteArray) (hl : l.length ≤ 1000) (ht : t.size ≤ 1000) (hh : w.heap.size + 2 < hi) :
    Calls Tryd.prog 28 #[.pointer (some ⟨w.heap.size + 2, 0, none⟩), .string t] W fun e W' => e = .returned (.tuple #[.int .i64 t.size, .nilIface]) ∧ ErS w W3 hi (l ++ t.data.toList) W' := by
  have hsz := h.sz
  refine (builder_WriteString (w.heap.size + 2) (w.heap.size + 2) (Lib.byteCells l) t W h.bd (by rw [Lib.byteCells_length]; omega) (by omega)).mono ?_
  rintro e W' ⟨rfl, h1, hb, ho⟩
  refine ⟨rfl, .inr ?_, h.kp.trans (keep_of_others hb ho (by omega) hh), h.bl.trans (hb.mono (by omega)), (hb.block _ (by omega)).trans h.re, Nat.le_trans h.sz hb.size⟩
  have e1 : Lib.byteCells (l ++ t.data.toList) = Lib.byteCells l ++ Lib.strCells t := by simp [Lib.byteCells, Lib.strCells]
  rw [e1]; exact h1

theorem er_itoa {w W3 W : World} {hi : Nat} {l : List UInt8} {p : Int} (h : ErS w W3 hi l W) (hp0 : -9223372036854775808 ≤ p) (hp1 : p ≤ 9223372036854775807) (ht : TabLaid w) (hg1 : 1 < w.heap.size) :
    Calls Tryd.prog 31 #[.int .i64 p] W fun e W' => e = .returned (.string ⟨(Lib.itoa p).toArray⟩) ∧ ErS w W3 hi l W' := by
  refine (Tryd.strconv_Itoa p hp0 hp1 W (ht.below h.bl hg1)).mono ?_
  rintro e W' ⟨rfl, k, os, rfl⟩
  exact ⟨rfl, h.calm (Lib.below_grow _ _ (Nat.le_refl _) k os)⟩

set_option maxRecDepth 100000 in
set_option maxHeartbeats 4000000 in
theorem error_one (b : Nat) (p : Int) (s : ByteArray) (w : World) (hs : s.size ≤ 12) (hp0 : -9223372036854775808 ≤ p) (hp1 : p ≤ 9223372036854775807) (hf : w.heap[b]? = some (faultObj p s .nilIface)) (ht : TabLaid w) (hg1 : 1 < w.heap.size) :
    Calls Tryd.prog 22 #[.pointer (some ⟨b, 0, none⟩)] w fun e w' => e = .returned (.string ⟨(says p s ++ [110, 111, 110, 101]).toArray⟩) ∧ Below w.heap.size w w' := by
  have hbl : b < w.heap.size := (Array.getElem?_eq_some_iff.1 hf).1
  have hL : Chain w w.heap.size (.iface 42 (.pointer (some ⟨b, 0, none⟩))) [.fault b p s] := ⟨rfl, hbl, _, hf, rfl⟩
  refine callsIn_wide (n := 0) |>.1 ?_
  refine callsIn_of_wp_marks Tryd.func22 rfl trivial ?_ rfl
  simp only [Tryd.ntmps22, List.size_toArray, List.length_cons, List.length_nil, Nat.reduceAdd, Nat.reduceSub, Array.replicate_succ, Array.replicate_zero, List.push_toArray, List.append_toArray, List.nil_append, List.cons_append]
  have HL := Lib.hid hL
  have HF := Lib.hid hf
  have HT := Lib.hid ht
  clear hL hf ht
  gi_wp2_with fail
  refine ⟨trivial, rfl, (callsIn_wide.2 (row_make _ _ _)).mono ?_⟩
  rintro e w' ⟨rfl, rfl⟩
  gi_wp2_with fail
  obtain ⟨W2, hW2⟩ : ∃ W2, (((w.alloc (.cells #[.pointer (some ⟨b, 0, none⟩)] 42)).alloc (.cells #[.string ({ data := #[] } : ByteArray)] 9)).alloc (.cells #[.pointer none, .slice none 0 0] 65)).alloc (.cells #[.iface 42 (.pointer (some ⟨b, 0, none⟩))] 29) = W2 := ⟨_, rfl⟩
  have hs2 : W2.heap.size = w.heap.size + 4 := by rw [← hW2]; simp
  have hbox2 : W2.cell? ⟨w.heap.size + 3, 0, none⟩ = some (.iface 42 (.pointer (some ⟨b, 0, none⟩))) := by
    rw [← hW2, World.cell?_alloc_at _ _ _ _ (by simp)]; rfl
  have hbd : W2.heap[w.heap.size + 2]? = some (.cells #[.pointer none, .slice none 0 0] 65 (0, 0)) := by
    rw [← hW2, Below.heap_alloc _ _ _ (by simp)]
    have := World.alloc_heap_new ((w.alloc (.cells #[.pointer (some ⟨b, 0, none⟩)] 42)).alloc (.cells #[.string ({ data := #[] } : ByteArray)] 9)) (.cells #[.pointer none, .slice none 0 0] 65)
    simpa using this
  have hre : W2.heap[w.heap.size + 1]? = some (.cells #[.string ({ data := #[] } : ByteArray)] 9 (0, 0)) := by
    rw [← hW2, Below.heap_alloc _ _ _ (by simp), Below.heap_alloc _ _ _ (by simp)]
    have := World.alloc_heap_new (w.alloc (.cells #[.pointer (some ⟨b, 0, none⟩)] 42)) (.cells #[.string ({ data := #[] } : ByteArray)] 9)
    simpa using this
  have hb2 : Below w.heap.size w W2 := by rw [← hW2]; exact ((((Below.refl _ w).alloc (Nat.le_refl _) _).alloc (by simp only [World.size_alloc]; omega) _).alloc (by simp only [World.size_alloc]; omega) _).alloc (by simp only [World.size_alloc]; omega) _
  rw [hW2]
  clear hW2
  have hL2 : Chain W2 w.heap.size (.iface 42 (.pointer (some ⟨b, 0, none⟩))) [.fault b p s] := HL.out.below hb2 (Nat.le_refl _)
  have hseq := row_seq (fr := frB) (w := W2) (by simp) (by omega) hbox2 hL2
  have hil := Lib.itoa_length_le p hp0 hp1
  refine rangeZ (gf := 33) (lb := #[.pointer (some ⟨w.heap.size + 3, 0, none⟩)]) rfl (Go.Proofs.enters_of Tryd.func33 (by kernel_rfl) rfl) hseq frB_cells (by omega) (fun _ => rfl)
    (ErI w p s) (fun _ _ _ => False)
    (fun l A B row hs hg hr => by
      obtain ⟨h1, h2, h3, h4⟩ := hs
      exact ⟨builder_own A B row h1 hg (fun r e => ⟨_, (hr r e).2.choose_spec⟩), ownFrom_below (β := Unit) (n₀ := w.heap.size) (Nat.le_refl _) (by omega) () A B row h2 hg hr, ownFrom_block (β := Unit) (by omega) () A B row h3 hg hr, Nat.le_trans h4 hg.size⟩)
    (fun _ _ _ _ _ hs _ _ => hs.elim)
    ⟨.inl ⟨by omega, .slice none 0 0, hbd, by rw [if_pos rfl]; exact World.ownsRowF_nil W2 _ _ _, by simp [Value.ownBlock]⟩, hb2, hre, by omega⟩
    (fun x => { tmps := #[.pointer (some ⟨b, 0, none⟩), .pointer (some ⟨w.heap.size, 0, none⟩), .pointer (some ⟨w.heap.size + 1, 0, none⟩), .pointer (some ⟨w.heap.size + 2, 0, none⟩), x.val, undef, undef, .pointer (some ⟨b, 0, none⟩), .bool false, .pointer (some ⟨b, 0, none⟩), .iface 42 (.pointer (some ⟨b, 0, none⟩)), .func (.func 33) #[] #[.pointer (some ⟨w.heap.size + 3, 0, none⟩)], x.val, undef, undef, undef, undef, undef, undef, undef, undef, undef, undef, undef, undef, undef, undef, undef, undef, undef, undef, undef, undef, undef, undef, undef, undef, undef, undef, undef, undef, undef, undef, undef], defers := [] })
    ?assign ?body ?done ?stop
  case assign =>
    intro l' x W3 K hK
    gi_wp2
    exact hK
  case body =>
    rintro l' pre x W3 ⟨hk3, hB3, hr3, hs3⟩ hpre hsz3
    obtain ⟨rfl, rfl⟩ : pre = [] ∧ x = .fault b p s := by
      obtain ⟨r, hr⟩ := hpre
      cases pre with
      | nil => simp at hr; exact ⟨rfl, hr.1⟩
      | cons y ys => simp at hr
    have hfo3 : W3.heap[b]? = some (faultObj p s .nilIface) := (hB3.block b hbl).trans HF.out
    obtain ⟨hq0, hq1, hq2⟩ := faultObj_cell hfo3
    have HB := Lib.hid hk3
    have HR3 := Lib.hid hr3
    clear hk3 hr3
    have ta := faFault
    simp only [El.val]
    gi_wp2_with fail
    have hh : w.heap.size + 2 < W2.heap.size := by omega
    have HE : Hid (ErS w W3 W2.heap.size [] W3) := Lib.hid ⟨by simpa using HB.out, Keep.refl _ _ _ _, hB3, HR3.out, hs3⟩
    refine ⟨trivial, rfl, CallsIn.mono (callsIn_wide.2 (er_ws HE.out s (by simp) (by omega) hh)) ?_⟩
    rintro e W4 ⟨rfl, h4⟩
    have H4 := Lib.hid h4
    clear h4
    gi_wp2_with fail
    refine ⟨trivial, rfl, CallsIn.mono (callsIn_wide.2 (er_ws H4.out _ (by simp; have e : s.data.size = s.size := rfl; omega) (by decide) hh)) ?_⟩
    rintro e W5 ⟨rfl, h5⟩
    have H5 := Lib.hid h5
    clear h5
    have hfo5 : W5.heap[b]? = some (faultObj p s .nilIface) := (H5.out.bl.block b hbl).trans HF.out
    obtain ⟨hr0, hr1, hr2⟩ := faultObj_cell hfo5
    gi_wp2_with fail
    refine ⟨trivial, rfl, CallsIn.mono (callsIn_wide.2 (er_itoa H5.out hp0 hp1 HT.out hg1)) ?_⟩
    rintro e W6 ⟨rfl, h6⟩
    have H6 := Lib.hid h6
    clear h6
    gi_wp2_with fail
    refine ⟨trivial, rfl, CallsIn.mono (callsIn_wide.2 (er_ws H6.out _ (by simp; have e : s.data.size = s.size := rfl; omega) (by show (Lib.itoa p).toArray.size ≤ _; simp; omega) hh)) ?_⟩
    rintro e W7 ⟨rfl, h7⟩
    have H7 := Lib.hid h7
    clear h7
    gi_wp2_with fail
    refine ⟨trivial, rfl, CallsIn.mono (callsIn_wide.2 (er_ws H7.out _ (by simp; have e : s.data.size = s.size := rfl; omega) (by decide) hh)) ?_⟩
    rintro e W8 ⟨rfl, h8⟩
    have H8 := Lib.hid h8
    clear h8
    gi_wp2_with fail
    refine ⟨H8.out.kp, ?_, H8.out.bl, H8.out.re, H8.out.sz⟩
    have := H8.out.bd
    simpa [says] using this
  case done =>
    rintro D ys W3 hD rfl ⟨hk3, hB3, hr3, hs3⟩ hK
    have HB := Lib.hid hk3
    have HR3 := Lib.hid hr3
    clear hk3 hr3
    gi_wp2_with fail
    have hh : w.heap.size + 2 < W2.heap.size := by omega
    have HE : Hid (ErS w W3 W2.heap.size (says p s) W3) := Lib.hid ⟨by simpa using HB.out, Keep.refl _ _ _ _, hB3, HR3.out, hs3⟩
    have hsl : (says p s).length ≤ 100 := by simp [says]; have e : s.data.size = s.size := rfl; omega
    refine ⟨trivial, rfl, CallsIn.mono (callsIn_wide.2 (er_ws HE.out _ (by omega) (by decide) hh)) ?_⟩
    rintro e W4 ⟨rfl, h4⟩
    have H4 := Lib.hid h4
    have hK4 : W4.heap[D]? = some (.deferred (some [])) := h4.kp.blk _ _ hK (.inr ⟨hD, rfl⟩)
    clear h4
    gi_wp2_with fail
    refine ⟨trivial, rfl, CallsIn.mono (callsIn_wide.2 (Tryd.Builder_String_any_k (w.heap.size + 2) (w.heap.size + 2) _ W4 H4.out.bd (by have := H4.out.sz; omega))) ?_⟩
    rintro e W5 ⟨rfl, h5, hb5, ho5⟩
    have hr5 : W5.heap[w.heap.size + 1]? = some (.cells #[.string ({ data := #[] } : ByteArray)] 9 (0, 0)) := (hb5.block _ (by omega)).trans H4.out.re
    have hK5 : W5.heap[D]? = some (.deferred (some [])) := (keep_of_others (lo := w.heap.size) (hi := W2.heap.size) hb5 ho5 (by omega) hh).blk _ _ hK4 (.inr ⟨hD, rfl⟩)
    have hc5 := cell_of_one hr5
    have hf5 := free_of_one hr5
    have HR5 := Lib.hid hr5
    have HH5 := Lib.hid h5
    clear hr5 h5
    gi_wp2_with fail
    have hK' : (W5.setCell ⟨w.heap.size + 1, 0, none⟩ (.string ⟨(says p s ++ [110, 111, 110, 101]).toArray⟩)).heap[D]? = some (.deferred (some [])) := (Below.heap_setCell _ _ _ _ (by show D ≠ w.heap.size + 1; omega)).trans hK5
    refine ⟨by simp, .inl ⟨_, _, rfl, run_takeDeferred hK', ?_⟩⟩
    have hO4 : ((W5.setCell ⟨w.heap.size + 1, 0, none⟩ (.string ⟨(says p s ++ [110, 111, 110, 101]).toArray⟩)).putObj D (.deferred none)).heap[w.heap.size + 1]? = some (.cells #[.string ⟨(says p s ++ [110, 111, 110, 101]).toArray⟩] 9 (0, 0)) := (World.putObj_heap_other (by omega)).trans (one_setCell HR5.out)
    refine ⟨.string ⟨(says p s ++ [110, 111, 110, 101]).toArray⟩, by simp [results, Tryd.results22, go_sem, cell_of_one hO4], rfl, ?_⟩
    exact ((H4.out.bl.trans (hb5.mono (by omega))).setCell (p := ⟨w.heap.size + 1, 0, none⟩) (by show w.heap.size ≤ w.heap.size + 1; omega) _).trans (belowK_b (w := w) (Nat.le_refl _) _ D _ _ (by omega) hK' rfl rfl)
  case stop =>
    rintro D c pre W3 hD hpre h hK
    exact h.elim
end Go.Proofs.YtbpihlndojnlcaaDoor
