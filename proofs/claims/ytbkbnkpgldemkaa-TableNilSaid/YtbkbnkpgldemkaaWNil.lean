/-
  TableNil: its walk.
-/
import Derived.Test.YtbkbnkpgldemkaaWAwake
namespace Go.Proofs.Ytbkbnkpgldemkaa
open Go Go.RowKit

attribute [local go_sem] Oper.semAt_some

set_option maxRecDepth 100000 in
theorem prefix_none_in (n l B1 B2 : Nat) (key : ByteArray) (B0 : Nat) (J : List (Nat × ByteArray) → World → Prop) (hJ : OwnFrom B0 J) (w : World)
    (h1 : w.heap[B1]? = some (.cells #[.pointer none] 22 (0, 0))) (h2 : w.heap[B2]? = some (.cells #[.string key] 9 (0, 0))) (h0 : J [] w) :
    CallsIn Fence.wide n Try.prog 12 #[.func (.yield l) #[] #[], .pointer (some ⟨B1, 0, none⟩), .pointer (some ⟨B2, 0, none⟩)] w fun e W' => (∃ v, e = .returned v) ∧ J [] W' := by
  refine callsIn_of_wp Try.func12 rfl trivial ?_ rfl
  simp only [Try.ntmps12, List.size_toArray, List.length_cons, List.length_nil, Nat.reduceAdd, Nat.reduceSub, Array.replicate_succ, Array.replicate_zero, List.push_toArray, List.append_toArray, List.nil_append, List.cons_append]
  have d1 := cell_of_one h1
  have d2 := cell_of_one h2
  have HS := Lib.hid (search_none key w)
  have H1 := Lib.hid h1
  clear h1 h2
  gi_wp2_with fail
  refine ⟨trivial, fun h => (by simp [Fence.wide] at h), (callsIn_wide.2 HS.out).mono ?_⟩
  rintro e w1 ⟨rfl, hb1⟩
  have e1 := cell_of_one ((hb1.block _ (lt_of_block H1.out)).trans H1.out)
  have HJ1 := Lib.hid (hJ _ _ _ none h0 (grown_of_below hb1) (fun r e => by cases e))
  clear hb1 h0 d1 d2 HS hJ
  gi_wp2_with fail
  gi_loopw [4] (fun x wr => x = .int .i64 0 ∧ Hid (wr.cell? ⟨B1, 0, none⟩ = some (.pointer none)) ∧ Hid (J [] wr)) (fun _ _ => 0)
  case atStart => exact ⟨rfl, Lib.hid e1, HJ1⟩
  case round =>
    obtain ⟨rfl, HC, HJ2⟩ := hrel
    have c1 := HC.out
    gi_wp2_with fail
    refine ⟨trivial, fun h => (by simp [Fence.wide] at h), (callsIn_wide.2 (lenW_nil _)).mono ?_⟩
    rintro e w2 ⟨rfl, rfl⟩
    gi_wp2
    go_end0
    exact ⟨⟨_, rfl⟩, HJ2.out⟩
theorem prefix_none_seq {q : Nat → Prop} {fr : Obj → Bool} {B1 B2 : Nat} {key : ByteArray} {w : World}
    (h1 : w.heap[B1]? = some (.cells #[.pointer none] 22 (0, 0))) (h2 : w.heap[B2]? = some (.cells #[.string key] 9 (0, 0))) :
    SeqQ Try.prog 12 #[.pointer (some ⟨B1, 0, none⟩), .pointer (some ⟨B2, 0, none⟩)] (fun x : Nat × ByteArray => #[.int .i64 x.1, .string x.2]) q fr (fun ys => ys = []) (fun _ => False) w := fun n l J _ W' hW hJ _ _ h0 =>
  (prefix_none_in n l B1 B2 key _ J hJ W' ((hW.block _ (lt_of_block h1)).trans h1) ((hW.block _ (lt_of_block h2)).trans h2) h0).mono fun _ _ ⟨h3, h4⟩ => ⟨h3, .inl ⟨[], rfl, h4⟩⟩

theorem seqW_nil (p q : Value) (w : World) : (binOp .eql 28 (.func (.func 12) #[] #[p, q]) .nilFunc).run Try.prog w = .ok (.bool false) w := by kernel_rfl
def NlI (w : World) (_ : List (Nat × ByteArray)) (W : World) : Prop := W.heap[w.heap.size]? = some (.cells #[.bool false] 4 (0, 0)) ∧ Below w.heap.size w W

set_option maxRecDepth 100000 in
set_option maxHeartbeats 4000000 in
theorem tableNil_law (s : ByteArray) (w : World) (hs : s.size ≤ maxLen) :
    Calls Try.prog 3 #[.string s] w fun e w' => e = .returned (.bool true) ∧ Below w.heap.size w w' := by
  refine callsIn_wide (n := 0) |>.1 ?_
  refine callsIn_of_wp_marks Try.func3 rfl trivial ?_ rfl
  simp only [Try.ntmps3, List.size_toArray, List.length_cons, List.length_nil, Nat.reduceAdd, Nat.reduceSub, Array.replicate_succ, Array.replicate_zero, List.push_toArray, List.append_toArray, List.nil_append, List.cons_append]
  gi_wp2_with fail
  obtain ⟨W0, hW0⟩ : ∃ W0, w.alloc (.cells #[.bool false] 4) = W0 := ⟨_, rfl⟩
  have hb0 : Below w.heap.size w W0 := by rw [← hW0]; exact (Below.refl _ w).alloc (Nat.le_refl _) _
  have hh0 : W0.heap[w.heap.size]? = some (.cells #[.bool false] 4 (0, 0)) := by rw [← hW0]; exact World.alloc_heap_new w _
  rw [hW0]
  clear hW0
  have HH0 := Lib.hid hh0
  have HB0 := Lib.hid hb0
  clear hh0 hb0
  refine ⟨trivial, rfl, (callsIn_wide.2 (rowW_none 0 _)).mono ?_⟩
  rintro e w' ⟨rfl, rfl⟩
  gi_wp2_with fail
  refine ⟨trivial, rfl, (callsIn_wide.2 (short11_any s _ hs)).mono ?_⟩
  rintro e w' ⟨rfl, rfl⟩
  gi_wp2_with fail
  refine ⟨trivial, rfl, (callsIn_wide.2 (findW_none (cutW s) _)).mono ?_⟩
  rintro e w1 ⟨rfl, hb1⟩
  have HH1 := Lib.hid ((hb1.block _ (lt_of_block HH0.out)).trans HH0.out)
  have HB1 := Lib.hid (HB0.out.trans (hb1.mono HB0.out.size))
  clear hb1 HH0 HB0
  gi_wp2_with fail
  refine ⟨trivial, rfl, (callsIn_wide.2 (prefix_make none ⟨#[]⟩ _)).mono ?_⟩
  rintro e w2 ⟨rfl, hw2⟩
  have hb2 : Below w1.heap.size w1 w2 := by rw [← hw2]; exact ((Below.refl _ w1).alloc (Nat.le_refl _) _).alloc (by simp) _
  have hx1 : w2.heap[w1.heap.size]? = some (.cells #[.pointer none] 22 (0, 0)) := by rw [← hw2, Below.heap_alloc _ _ _ (by simp)]; exact World.alloc_heap_new w1 _
  have hx2 : w2.heap[w1.heap.size + 1]? = some (.cells #[.string ⟨#[]⟩] 9 (0, 0)) := by
    rw [← hw2]
    have := World.alloc_heap_new (w1.alloc (.cells #[.pointer none] 22)) (.cells #[.string ({ data := #[] } : ByteArray)] 9)
    rwa [World.size_alloc] at this
  have HH2 := Lib.hid ((hb2.block _ (lt_of_block HH1.out)).trans HH1.out)
  have HB2 := Lib.hid (HB1.out.trans (hb2.mono HB1.out.size))
  have hseq := prefix_none_seq (q := fun k => k < w2.heap.size) (fr := fun _ => false) hx1 hx2
  clear hw2 hb2 hx1 hx2 HH1 HB1
  have hnil := seqW_nil (.pointer (some ⟨w1.heap.size, 0, none⟩)) (.pointer (some ⟨w1.heap.size + 1, 0, none⟩))
  generalize w1.heap.size = n1 at *
  gi_wp2_with fail
  refine rangeQ (gf := 12) (lb := #[.pointer (some ⟨n1, 0, none⟩), .pointer (some ⟨n1 + 1, 0, none⟩)]) rfl (Go.Proofs.enters_of Try.func12 (by kernel_rfl) rfl) hseq (fun _ h => by cases h) (fun k h => h) (fun _ => rfl)
    (NlI w) (fun _ _ _ => False)
    (fun s' A B row hs hg hr => by
      have hl := lt_of_block HH2.out
      exact ⟨ownFrom_block (β := Unit) hl () A B row hs.1 hg hr, ownFrom_belowW (β := Unit) (Nat.le_of_lt hl) (Nat.le_refl _) () A B row hs.2 hg hr⟩)
    (fun _ _ _ _ _ hs _ _ => hs.elim)
    ⟨HH2.out, HB2.out⟩
    (fun y => { tmps := #[.string s, undef, .pointer (some ⟨w.heap.size, 0, none⟩), .pointer none, .string ⟨#[]⟩, .bool false, .string ⟨#[]⟩, .bool false, .func (.func 12) #[] #[.pointer (some ⟨n1, 0, none⟩), .pointer (some ⟨n1 + 1, 0, none⟩)], .tuple #[.string ⟨#[]⟩, .bool false], .pointer none, .tuple #[.string ⟨#[]⟩, .bool false], .string ⟨#[]⟩, .bool false, .tuple #[.string ⟨#[]⟩, .bool false], .pointer none, .string s, .string (cutW s), .tuple #[.string ⟨#[]⟩, .bool false], .string ⟨#[]⟩, .bool false, .pointer none, .func (.func 12) #[] #[.pointer (some ⟨n1, 0, none⟩), .pointer (some ⟨n1 + 1, 0, none⟩)], .func (.func 12) #[] #[.pointer (some ⟨n1, 0, none⟩), .pointer (some ⟨n1 + 1, 0, none⟩)], .bool false, .func (.func 12) #[] #[.pointer (some ⟨n1, 0, none⟩), .pointer (some ⟨n1 + 1, 0, none⟩)], .int .i64 y.1, .string y.2, undef, undef, undef, undef, undef, undef, undef, undef, undef, undef, undef, undef, undef, undef, undef, undef, undef, undef, undef, undef, undef, undef, undef, undef, undef, undef, undef], defers := [] })
    ?assign ?body ?done ?stop
  case assign =>
    intro l' x W3 K hK
    gi_wp2
    exact hK
  case body =>
    intro l' pre x W3 h1 h2
    exact h2.elim
  case done =>
    rintro D ys W3 hD rfl ⟨h3, hB3⟩ hK
    have hl := lt_of_block HH2.out
    clear hseq hnil
    have HH3 := Lib.hid h3
    have HB3 := Lib.hid hB3
    have HK := Lib.hid hK
    clear h3 hB3 hK
    gi_wp2_with fail
    refine ⟨trivial, rfl, (callsIn_wide.2 (awake11_any _)).mono ?_⟩
    rintro e w4 ⟨rfl, hb4⟩
    have h4 := (hb4.block _ (lt_of_block HH3.out)).trans HH3.out
    have c4 := cell_of_one h4
    have f4 := free_of_one h4
    have HH4 := Lib.hid h4
    have HB4 := Lib.hid (HB3.out.trans (hb4.mono HB3.out.size))
    have HK4 := Lib.hid ((hb4.block _ (lt_of_block HK.out)).trans HK.out)
    clear hb4 h4
    gi_wp2_with fail
    refine ⟨trivial, rfl, (callsIn_wide.2 (lenW_nil _)).mono ?_⟩
    rintro e w' ⟨rfl, rfl⟩
    gi_wp2_with fail
    refine ⟨trivial, rfl, (callsIn_wide.2 (bytesW_none _)).mono ?_⟩
    rintro e w' ⟨rfl, rfl⟩
    gi_wp2_with fail
    have k0 : (w4.setCell ⟨w.heap.size, 0, none⟩ (.bool true)).heap[w.heap.size]? = some (.cells #[.bool true] 4 (0, 0)) := one_setCell HH4.out
    have kd : (w4.setCell ⟨w.heap.size, 0, none⟩ (.bool true)).heap[D]? = some (.deferred (some [])) := (Below.heap_setCell _ _ _ _ (by show D ≠ w.heap.size; omega)).trans HK4.out
    have k1 : ((w4.setCell ⟨w.heap.size, 0, none⟩ (.bool true)).putObj D (.deferred none)).heap[w.heap.size]? = some (.cells #[.bool true] 4 (0, 0)) := (World.putObj_heap_other (by omega)).trans k0
    refine ⟨by simp, .inl ⟨_, _, rfl, run_takeDeferred kd, ?_⟩⟩
    refine ⟨.bool true, by simp [results, Try.results3, go_sem, cell_of_one k1], rfl, ?_⟩
    exact (HB4.out.setCell (p := ⟨w.heap.size, 0, none⟩) (Nat.le_refl _) _).trans (belowK_b (w := w) (Nat.le_refl _) _ D _ (.deferred none) (by omega) kd rfl rfl)
  case stop =>
    rintro D c pre W3 hD hpre h hK
    exact h.elim
end Go.Proofs.Ytbkbnkpgldemkaa
