/-
  Package parse: First.
-/
import Derived.Test.YtpnhjpplfjamkaaGreatDoorQFirstR
namespace Go.Proofs.YtpnhjpplfjamkaaGreatDoor
open Go Go.RowKit

attribute [local go_sem] Oper.semAt_some

theorem read_grand (s : ByteArray) : (readS s).1.T.grand = ByteArray.empty := by
  have e1 : (readS s).1 = (runP (pieces s) pSt0).1 := by
    unfold readS finP
    split
    · rename_i st e he; rw [he]
    · rename_i st he; rw [he]; split <;> rfl
  rw [e1]
  exact runP_grand _ _ rfl
set_option maxRecDepth 100000 in
set_option maxHeartbeats 16000000 in
theorem first_own (s : ByteArray) (w : World) (hs : s.size ≤ 40000) (hg : GL w) :
    Calls Tryz.prog 33 #[.string s] w fun e w' => ∃ tv, e = .returned (.tuple #[tv, .string (restS s).2]) ∧ TagIs w' tv (restS s).1 ∧ Below w.heap.size w w' := by
  have HG := Lib.hid hg
  have HRO := Lib.hid (fun w5 => read_own s w5 (by omega))
  obtain ⟨st, hst⟩ : ∃ st, (readS s).1 = st := ⟨_, rfl⟩
  clear hg
  refine callsIn_wide (n := 0) |>.1 ?_
  refine callsIn_of_wp_marks Tryz.func33 rfl trivial ?_ rfl
  simp only [Tryz.ntmps33, List.size_toArray, List.length_cons, List.length_nil, Nat.reduceAdd, Nat.reduceSub, Array.replicate_succ, Array.replicate_zero, List.push_toArray, List.append_toArray, List.nil_append, List.cons_append]
  gi_wp2_with fail
  obtain ⟨W0, hW0⟩ : ∃ W0, (w.alloc (.cells #[.string s] 9)).alloc (.cells #[.string ⟨#[]⟩, .slice none 0 0, .string ⟨#[]⟩, .string ⟨#[]⟩, .slice none 0 0, .slice none 0 0, .slice none 0 0, .string ⟨#[]⟩] 31) = W0 := ⟨_, rfl⟩
  have hb0 : Below w.heap.size w W0 := by rw [← hW0]; exact ((Below.refl _ w).alloc (Nat.le_refl _) _).alloc (by simp) _
  have hs0 : W0.heap.size = w.heap.size + 1 + 1 := by rw [← hW0]; simp
  have hx0 : W0.heap[w.heap.size]? = some (.cells #[.string s] 9 (0, 0)) := by
    rw [← hW0, Below.heap_alloc _ _ _ (by simp)]; exact World.alloc_heap_new w _
  have hy0 : W0.heap[w.heap.size + 1]? = some (.cells #[.string ⟨#[]⟩, .slice none 0 0, .string ⟨#[]⟩, .string ⟨#[]⟩, .slice none 0 0, .slice none 0 0, .slice none 0 0, .string ⟨#[]⟩] 31 (0, 0)) := by
    rw [← hW0]
    have := World.alloc_heap_new (w.alloc (.cells #[.string s] 9)) (.cells #[.string ⟨#[]⟩, .slice none 0 0, .string ⟨#[]⟩, .string ⟨#[]⟩, .slice none 0 0, .slice none 0 0, .slice none 0 0, .string ⟨#[]⟩] 31)
    rwa [World.size_alloc] at this
  rw [hW0]
  clear hW0
  have HX0 := Lib.hid hx0
  have HY0 := Lib.hid hy0
  have HB0 := Lib.hid hb0
  clear hx0 hy0 hb0
  refine ⟨trivial, rfl, CallsIn.mono (callsIn_wide.2 (HRO.out W0)) ?_⟩
  rintro e w1 ⟨B, M, N, ev, rfl, hN, ⟨ve, vv, vx, vp, us, hrd⟩, hb1, -⟩
  rw [hst] at hrd
  have hrb := hrd.hb
  have hlB := lt_of_heap hrb
  have hgr : st.T.grand = ByteArray.empty := by rw [← hst]; exact read_grand s
  have hIS := Lib.hid (hrd.tag hgr)
  obtain ⟨ae, ac, av, vc, ax, xc, ap, pc, hsh⟩ := tag_shape hIS.out
  obtain ⟨rfl, rfl, rfl, rfl⟩ : ve = .slice ae st.T.extl.length ac ∧ vv = .slice av st.T.vars.length vc ∧ vx = .slice ax st.T.exts.length xc ∧ vp = .slice ap st.T.priv.length pc := by
    rw [hgr] at hsh
    simpa using hsh
  clear hsh
  obtain ⟨r0, r1, r2, r3, r4, r5, r6, r7, r8⟩ : w1.cell? ⟨B, 0, none⟩ = some (.string st.T.lang) ∧ w1.cell? ⟨B, 1, none⟩ = some (.slice ae st.T.extl.length ac) ∧ w1.cell? ⟨B, 2, none⟩ = some (.string st.T.script) ∧ w1.cell? ⟨B, 3, none⟩ = some (.string st.T.region) ∧ w1.cell? ⟨B, 4, none⟩ = some (.slice av st.T.vars.length vc) ∧ w1.cell? ⟨B, 5, none⟩ = some (.slice ax st.T.exts.length xc) ∧ w1.cell? ⟨B, 6, none⟩ = some (.slice ap st.T.priv.length pc) ∧ w1.cell? ⟨B, 7, none⟩ = some (.string ByteArray.empty) ∧ w1.cell? ⟨B, 8, none⟩ = some (.int .i64 (st.last : Int)) :=
    ⟨rd_cell 0 hrb rfl, rd_cell 1 hrb rfl, rd_cell 2 hrb rfl, rd_cell 3 hrb rfl, rd_cell 4 hrb rfl, rd_cell 5 hrb rfl, rd_cell 6 hrb rfl, rd_cell 7 hrb rfl, rd_cell 8 hrb rfl⟩
  have hbV1 : (w1.alloc (.cells #[.string ⟨#[]⟩, .slice none 0 0, .string ⟨#[]⟩, .string ⟨#[]⟩, .slice none 0 0, .slice none 0 0, .slice none 0 0, .string ⟨#[]⟩] 31)).heap[B]? = some (.cells (rdCs st (.slice ae st.T.extl.length ac) (.slice av st.T.vars.length vc) (.slice ax st.T.exts.length xc) (.slice ap st.T.priv.length pc) M) 73 (0, 0)) := by rw [Below.heap_alloc _ _ _ (by first | omega | (simp; omega))]; exact hrb
  have fV10 : (w1.alloc (.cells #[.string ⟨#[]⟩, .slice none 0 0, .string ⟨#[]⟩, .string ⟨#[]⟩, .slice none 0 0, .slice none 0 0, .slice none 0 0, .string ⟨#[]⟩] 31)).cell? ⟨B, 0, none⟩ = some (.string st.T.lang) := rd_cell 0 hbV1 rfl
  have fV11 : (w1.alloc (.cells #[.string ⟨#[]⟩, .slice none 0 0, .string ⟨#[]⟩, .string ⟨#[]⟩, .slice none 0 0, .slice none 0 0, .slice none 0 0, .string ⟨#[]⟩] 31)).cell? ⟨B, 1, none⟩ = some (.slice ae st.T.extl.length ac) := rd_cell 1 hbV1 rfl
  have fV12 : (w1.alloc (.cells #[.string ⟨#[]⟩, .slice none 0 0, .string ⟨#[]⟩, .string ⟨#[]⟩, .slice none 0 0, .slice none 0 0, .slice none 0 0, .string ⟨#[]⟩] 31)).cell? ⟨B, 2, none⟩ = some (.string st.T.script) := rd_cell 2 hbV1 rfl
  have fV13 : (w1.alloc (.cells #[.string ⟨#[]⟩, .slice none 0 0, .string ⟨#[]⟩, .string ⟨#[]⟩, .slice none 0 0, .slice none 0 0, .slice none 0 0, .string ⟨#[]⟩] 31)).cell? ⟨B, 3, none⟩ = some (.string st.T.region) := rd_cell 3 hbV1 rfl
  have fV14 : (w1.alloc (.cells #[.string ⟨#[]⟩, .slice none 0 0, .string ⟨#[]⟩, .string ⟨#[]⟩, .slice none 0 0, .slice none 0 0, .slice none 0 0, .string ⟨#[]⟩] 31)).cell? ⟨B, 4, none⟩ = some (.slice av st.T.vars.length vc) := rd_cell 4 hbV1 rfl
  have fV15 : (w1.alloc (.cells #[.string ⟨#[]⟩, .slice none 0 0, .string ⟨#[]⟩, .string ⟨#[]⟩, .slice none 0 0, .slice none 0 0, .slice none 0 0, .string ⟨#[]⟩] 31)).cell? ⟨B, 5, none⟩ = some (.slice ax st.T.exts.length xc) := rd_cell 5 hbV1 rfl
  have fV16 : (w1.alloc (.cells #[.string ⟨#[]⟩, .slice none 0 0, .string ⟨#[]⟩, .string ⟨#[]⟩, .slice none 0 0, .slice none 0 0, .slice none 0 0, .string ⟨#[]⟩] 31)).cell? ⟨B, 6, none⟩ = some (.slice ap st.T.priv.length pc) := rd_cell 6 hbV1 rfl
  have fV17 : (w1.alloc (.cells #[.string ⟨#[]⟩, .slice none 0 0, .string ⟨#[]⟩, .string ⟨#[]⟩, .slice none 0 0, .slice none 0 0, .slice none 0 0, .string ⟨#[]⟩] 31)).cell? ⟨B, 7, none⟩ = some (.string ByteArray.empty) := rd_cell 7 hbV1 rfl
  have fV18 : (w1.alloc (.cells #[.string ⟨#[]⟩, .slice none 0 0, .string ⟨#[]⟩, .string ⟨#[]⟩, .slice none 0 0, .slice none 0 0, .slice none 0 0, .string ⟨#[]⟩] 31)).cell? ⟨B, 8, none⟩ = some (.int .i64 (st.last : Int)) := rd_cell 8 hbV1 rfl
  clear hbV1
  have hbV2 : (w1.alloc (.cells #[.int .i64 0] 3)).heap[B]? = some (.cells (rdCs st (.slice ae st.T.extl.length ac) (.slice av st.T.vars.length vc) (.slice ax st.T.exts.length xc) (.slice ap st.T.priv.length pc) M) 73 (0, 0)) := by rw [Below.heap_alloc _ _ _ (by first | omega | (simp; omega))]; exact hrb
  have fV20 : (w1.alloc (.cells #[.int .i64 0] 3)).cell? ⟨B, 0, none⟩ = some (.string st.T.lang) := rd_cell 0 hbV2 rfl
  have fV21 : (w1.alloc (.cells #[.int .i64 0] 3)).cell? ⟨B, 1, none⟩ = some (.slice ae st.T.extl.length ac) := rd_cell 1 hbV2 rfl
  have fV22 : (w1.alloc (.cells #[.int .i64 0] 3)).cell? ⟨B, 2, none⟩ = some (.string st.T.script) := rd_cell 2 hbV2 rfl
  have fV23 : (w1.alloc (.cells #[.int .i64 0] 3)).cell? ⟨B, 3, none⟩ = some (.string st.T.region) := rd_cell 3 hbV2 rfl
  have fV24 : (w1.alloc (.cells #[.int .i64 0] 3)).cell? ⟨B, 4, none⟩ = some (.slice av st.T.vars.length vc) := rd_cell 4 hbV2 rfl
  have fV25 : (w1.alloc (.cells #[.int .i64 0] 3)).cell? ⟨B, 5, none⟩ = some (.slice ax st.T.exts.length xc) := rd_cell 5 hbV2 rfl
  have fV26 : (w1.alloc (.cells #[.int .i64 0] 3)).cell? ⟨B, 6, none⟩ = some (.slice ap st.T.priv.length pc) := rd_cell 6 hbV2 rfl
  have fV27 : (w1.alloc (.cells #[.int .i64 0] 3)).cell? ⟨B, 7, none⟩ = some (.string ByteArray.empty) := rd_cell 7 hbV2 rfl
  have fV28 : (w1.alloc (.cells #[.int .i64 0] 3)).cell? ⟨B, 8, none⟩ = some (.int .i64 (st.last : Int)) := rd_cell 8 hbV2 rfl
  clear hbV2
  have hbV3 : ((w1.alloc (.cells #[.string ⟨#[]⟩, .slice none 0 0, .string ⟨#[]⟩, .string ⟨#[]⟩, .slice none 0 0, .slice none 0 0, .slice none 0 0, .string ⟨#[]⟩] 31)).alloc (.cells #[.int .i64 0] 3)).heap[B]? = some (.cells (rdCs st (.slice ae st.T.extl.length ac) (.slice av st.T.vars.length vc) (.slice ax st.T.exts.length xc) (.slice ap st.T.priv.length pc) M) 73 (0, 0)) := by rw [Below.heap_alloc _ _ _ (by first | omega | (simp; omega))]; rw [Below.heap_alloc _ _ _ (by first | omega | (simp; omega))]; exact hrb
  have fV30 : ((w1.alloc (.cells #[.string ⟨#[]⟩, .slice none 0 0, .string ⟨#[]⟩, .string ⟨#[]⟩, .slice none 0 0, .slice none 0 0, .slice none 0 0, .string ⟨#[]⟩] 31)).alloc (.cells #[.int .i64 0] 3)).cell? ⟨B, 0, none⟩ = some (.string st.T.lang) := rd_cell 0 hbV3 rfl
  have fV31 : ((w1.alloc (.cells #[.string ⟨#[]⟩, .slice none 0 0, .string ⟨#[]⟩, .string ⟨#[]⟩, .slice none 0 0, .slice none 0 0, .slice none 0 0, .string ⟨#[]⟩] 31)).alloc (.cells #[.int .i64 0] 3)).cell? ⟨B, 1, none⟩ = some (.slice ae st.T.extl.length ac) := rd_cell 1 hbV3 rfl
  have fV32 : ((w1.alloc (.cells #[.string ⟨#[]⟩, .slice none 0 0, .string ⟨#[]⟩, .string ⟨#[]⟩, .slice none 0 0, .slice none 0 0, .slice none 0 0, .string ⟨#[]⟩] 31)).alloc (.cells #[.int .i64 0] 3)).cell? ⟨B, 2, none⟩ = some (.string st.T.script) := rd_cell 2 hbV3 rfl
  have fV33 : ((w1.alloc (.cells #[.string ⟨#[]⟩, .slice none 0 0, .string ⟨#[]⟩, .string ⟨#[]⟩, .slice none 0 0, .slice none 0 0, .slice none 0 0, .string ⟨#[]⟩] 31)).alloc (.cells #[.int .i64 0] 3)).cell? ⟨B, 3, none⟩ = some (.string st.T.region) := rd_cell 3 hbV3 rfl
  have fV34 : ((w1.alloc (.cells #[.string ⟨#[]⟩, .slice none 0 0, .string ⟨#[]⟩, .string ⟨#[]⟩, .slice none 0 0, .slice none 0 0, .slice none 0 0, .string ⟨#[]⟩] 31)).alloc (.cells #[.int .i64 0] 3)).cell? ⟨B, 4, none⟩ = some (.slice av st.T.vars.length vc) := rd_cell 4 hbV3 rfl
  have fV35 : ((w1.alloc (.cells #[.string ⟨#[]⟩, .slice none 0 0, .string ⟨#[]⟩, .string ⟨#[]⟩, .slice none 0 0, .slice none 0 0, .slice none 0 0, .string ⟨#[]⟩] 31)).alloc (.cells #[.int .i64 0] 3)).cell? ⟨B, 5, none⟩ = some (.slice ax st.T.exts.length xc) := rd_cell 5 hbV3 rfl
  have fV36 : ((w1.alloc (.cells #[.string ⟨#[]⟩, .slice none 0 0, .string ⟨#[]⟩, .string ⟨#[]⟩, .slice none 0 0, .slice none 0 0, .slice none 0 0, .string ⟨#[]⟩] 31)).alloc (.cells #[.int .i64 0] 3)).cell? ⟨B, 6, none⟩ = some (.slice ap st.T.priv.length pc) := rd_cell 6 hbV3 rfl
  have fV37 : ((w1.alloc (.cells #[.string ⟨#[]⟩, .slice none 0 0, .string ⟨#[]⟩, .string ⟨#[]⟩, .slice none 0 0, .slice none 0 0, .slice none 0 0, .string ⟨#[]⟩] 31)).alloc (.cells #[.int .i64 0] 3)).cell? ⟨B, 7, none⟩ = some (.string ByteArray.empty) := rd_cell 7 hbV3 rfl
  have fV38 : ((w1.alloc (.cells #[.string ⟨#[]⟩, .slice none 0 0, .string ⟨#[]⟩, .string ⟨#[]⟩, .slice none 0 0, .slice none 0 0, .slice none 0 0, .string ⟨#[]⟩] 31)).alloc (.cells #[.int .i64 0] 3)).cell? ⟨B, 8, none⟩ = some (.int .i64 (st.last : Int)) := rd_cell 8 hbV3 rfl
  clear hbV3
  have hbV4 : ((w1.alloc (.cells #[.int .i64 0] 3)).alloc (.cells #[.string ⟨#[]⟩, .slice none 0 0, .string ⟨#[]⟩, .string ⟨#[]⟩, .slice none 0 0, .slice none 0 0, .slice none 0 0, .string ⟨#[]⟩] 31)).heap[B]? = some (.cells (rdCs st (.slice ae st.T.extl.length ac) (.slice av st.T.vars.length vc) (.slice ax st.T.exts.length xc) (.slice ap st.T.priv.length pc) M) 73 (0, 0)) := by rw [Below.heap_alloc _ _ _ (by first | omega | (simp; omega))]; rw [Below.heap_alloc _ _ _ (by first | omega | (simp; omega))]; exact hrb
  have fV40 : ((w1.alloc (.cells #[.int .i64 0] 3)).alloc (.cells #[.string ⟨#[]⟩, .slice none 0 0, .string ⟨#[]⟩, .string ⟨#[]⟩, .slice none 0 0, .slice none 0 0, .slice none 0 0, .string ⟨#[]⟩] 31)).cell? ⟨B, 0, none⟩ = some (.string st.T.lang) := rd_cell 0 hbV4 rfl
  have fV41 : ((w1.alloc (.cells #[.int .i64 0] 3)).alloc (.cells #[.string ⟨#[]⟩, .slice none 0 0, .string ⟨#[]⟩, .string ⟨#[]⟩, .slice none 0 0, .slice none 0 0, .slice none 0 0, .string ⟨#[]⟩] 31)).cell? ⟨B, 1, none⟩ = some (.slice ae st.T.extl.length ac) := rd_cell 1 hbV4 rfl
  have fV42 : ((w1.alloc (.cells #[.int .i64 0] 3)).alloc (.cells #[.string ⟨#[]⟩, .slice none 0 0, .string ⟨#[]⟩, .string ⟨#[]⟩, .slice none 0 0, .slice none 0 0, .slice none 0 0, .string ⟨#[]⟩] 31)).cell? ⟨B, 2, none⟩ = some (.string st.T.script) := rd_cell 2 hbV4 rfl
  have fV43 : ((w1.alloc (.cells #[.int .i64 0] 3)).alloc (.cells #[.string ⟨#[]⟩, .slice none 0 0, .string ⟨#[]⟩, .string ⟨#[]⟩, .slice none 0 0, .slice none 0 0, .slice none 0 0, .string ⟨#[]⟩] 31)).cell? ⟨B, 3, none⟩ = some (.string st.T.region) := rd_cell 3 hbV4 rfl
  have fV44 : ((w1.alloc (.cells #[.int .i64 0] 3)).alloc (.cells #[.string ⟨#[]⟩, .slice none 0 0, .string ⟨#[]⟩, .string ⟨#[]⟩, .slice none 0 0, .slice none 0 0, .slice none 0 0, .string ⟨#[]⟩] 31)).cell? ⟨B, 4, none⟩ = some (.slice av st.T.vars.length vc) := rd_cell 4 hbV4 rfl
  have fV45 : ((w1.alloc (.cells #[.int .i64 0] 3)).alloc (.cells #[.string ⟨#[]⟩, .slice none 0 0, .string ⟨#[]⟩, .string ⟨#[]⟩, .slice none 0 0, .slice none 0 0, .slice none 0 0, .string ⟨#[]⟩] 31)).cell? ⟨B, 5, none⟩ = some (.slice ax st.T.exts.length xc) := rd_cell 5 hbV4 rfl
  have fV46 : ((w1.alloc (.cells #[.int .i64 0] 3)).alloc (.cells #[.string ⟨#[]⟩, .slice none 0 0, .string ⟨#[]⟩, .string ⟨#[]⟩, .slice none 0 0, .slice none 0 0, .slice none 0 0, .string ⟨#[]⟩] 31)).cell? ⟨B, 6, none⟩ = some (.slice ap st.T.priv.length pc) := rd_cell 6 hbV4 rfl
  have fV47 : ((w1.alloc (.cells #[.int .i64 0] 3)).alloc (.cells #[.string ⟨#[]⟩, .slice none 0 0, .string ⟨#[]⟩, .string ⟨#[]⟩, .slice none 0 0, .slice none 0 0, .slice none 0 0, .string ⟨#[]⟩] 31)).cell? ⟨B, 7, none⟩ = some (.string ByteArray.empty) := rd_cell 7 hbV4 rfl
  have fV48 : ((w1.alloc (.cells #[.int .i64 0] 3)).alloc (.cells #[.string ⟨#[]⟩, .slice none 0 0, .string ⟨#[]⟩, .string ⟨#[]⟩, .slice none 0 0, .slice none 0 0, .slice none 0 0, .string ⟨#[]⟩] 31)).cell? ⟨B, 8, none⟩ = some (.int .i64 (st.last : Int)) := rd_cell 8 hbV4 rfl
  clear hbV4
  have hz3 : ((w1.alloc (.cells #[.string ⟨#[]⟩, .slice none 0 0, .string ⟨#[]⟩, .string ⟨#[]⟩, .slice none 0 0, .slice none 0 0, .slice none 0 0, .string ⟨#[]⟩] 31)).alloc (.cells #[.int .i64 0] 3)).heap[w1.heap.size]? = some (.cells #[.string ⟨#[]⟩, .slice none 0 0, .string ⟨#[]⟩, .string ⟨#[]⟩, .slice none 0 0, .slice none 0 0, .slice none 0 0, .string ⟨#[]⟩] 31 (0, 0)) := by rw [Below.heap_alloc _ _ _ (by simp)]; exact World.alloc_heap_new w1 _
  have hi3 : ((w1.alloc (.cells #[.string ⟨#[]⟩, .slice none 0 0, .string ⟨#[]⟩, .string ⟨#[]⟩, .slice none 0 0, .slice none 0 0, .slice none 0 0, .string ⟨#[]⟩] 31)).alloc (.cells #[.int .i64 0] 3)).heap[w1.heap.size + 1]? = some (.cells #[.int .i64 0] 3 (0, 0)) := heap_alloc2_new w1 _ _
  have hi4 : ((w1.alloc (.cells #[.int .i64 0] 3)).alloc (.cells #[.string ⟨#[]⟩, .slice none 0 0, .string ⟨#[]⟩, .string ⟨#[]⟩, .slice none 0 0, .slice none 0 0, .slice none 0 0, .string ⟨#[]⟩] 31)).heap[w1.heap.size]? = some (.cells #[.int .i64 0] 3 (0, 0)) := by rw [Below.heap_alloc _ _ _ (by simp)]; exact World.alloc_heap_new w1 _
  have hz4 : ((w1.alloc (.cells #[.int .i64 0] 3)).alloc (.cells #[.string ⟨#[]⟩, .slice none 0 0, .string ⟨#[]⟩, .string ⟨#[]⟩, .slice none 0 0, .slice none 0 0, .slice none 0 0, .string ⟨#[]⟩] 31)).heap[w1.heap.size + 1]? = some (.cells #[.string ⟨#[]⟩, .slice none 0 0, .string ⟨#[]⟩, .string ⟨#[]⟩, .slice none 0 0, .slice none 0 0, .slice none 0 0, .string ⟨#[]⟩] 31 (0, 0)) := heap_alloc2_new w1 _ _
  have zV30 : ((w1.alloc (.cells #[.string ⟨#[]⟩, .slice none 0 0, .string ⟨#[]⟩, .string ⟨#[]⟩, .slice none 0 0, .slice none 0 0, .slice none 0 0, .string ⟨#[]⟩] 31)).alloc (.cells #[.int .i64 0] 3)).cell? ⟨w1.heap.size, 0, none⟩ = some (.string ⟨#[]⟩) := rd_cell 0 hz3 rfl
  have yV30 : ((w1.alloc (.cells #[.string ⟨#[]⟩, .slice none 0 0, .string ⟨#[]⟩, .string ⟨#[]⟩, .slice none 0 0, .slice none 0 0, .slice none 0 0, .string ⟨#[]⟩] 31)).alloc (.cells #[.int .i64 0] 3)).frozen? ⟨w1.heap.size, 0, none⟩ = false := cells_frozen 0 hz3
  have zV31 : ((w1.alloc (.cells #[.string ⟨#[]⟩, .slice none 0 0, .string ⟨#[]⟩, .string ⟨#[]⟩, .slice none 0 0, .slice none 0 0, .slice none 0 0, .string ⟨#[]⟩] 31)).alloc (.cells #[.int .i64 0] 3)).cell? ⟨w1.heap.size, 1, none⟩ = some (.slice none 0 0) := rd_cell 1 hz3 rfl
  have yV31 : ((w1.alloc (.cells #[.string ⟨#[]⟩, .slice none 0 0, .string ⟨#[]⟩, .string ⟨#[]⟩, .slice none 0 0, .slice none 0 0, .slice none 0 0, .string ⟨#[]⟩] 31)).alloc (.cells #[.int .i64 0] 3)).frozen? ⟨w1.heap.size, 1, none⟩ = false := cells_frozen 1 hz3
  have zV32 : ((w1.alloc (.cells #[.string ⟨#[]⟩, .slice none 0 0, .string ⟨#[]⟩, .string ⟨#[]⟩, .slice none 0 0, .slice none 0 0, .slice none 0 0, .string ⟨#[]⟩] 31)).alloc (.cells #[.int .i64 0] 3)).cell? ⟨w1.heap.size, 2, none⟩ = some (.string ⟨#[]⟩) := rd_cell 2 hz3 rfl
  have yV32 : ((w1.alloc (.cells #[.string ⟨#[]⟩, .slice none 0 0, .string ⟨#[]⟩, .string ⟨#[]⟩, .slice none 0 0, .slice none 0 0, .slice none 0 0, .string ⟨#[]⟩] 31)).alloc (.cells #[.int .i64 0] 3)).frozen? ⟨w1.heap.size, 2, none⟩ = false := cells_frozen 2 hz3
  have zV33 : ((w1.alloc (.cells #[.string ⟨#[]⟩, .slice none 0 0, .string ⟨#[]⟩, .string ⟨#[]⟩, .slice none 0 0, .slice none 0 0, .slice none 0 0, .string ⟨#[]⟩] 31)).alloc (.cells #[.int .i64 0] 3)).cell? ⟨w1.heap.size, 3, none⟩ = some (.string ⟨#[]⟩) := rd_cell 3 hz3 rfl
  have yV33 : ((w1.alloc (.cells #[.string ⟨#[]⟩, .slice none 0 0, .string ⟨#[]⟩, .string ⟨#[]⟩, .slice none 0 0, .slice none 0 0, .slice none 0 0, .string ⟨#[]⟩] 31)).alloc (.cells #[.int .i64 0] 3)).frozen? ⟨w1.heap.size, 3, none⟩ = false := cells_frozen 3 hz3
  have zV34 : ((w1.alloc (.cells #[.string ⟨#[]⟩, .slice none 0 0, .string ⟨#[]⟩, .string ⟨#[]⟩, .slice none 0 0, .slice none 0 0, .slice none 0 0, .string ⟨#[]⟩] 31)).alloc (.cells #[.int .i64 0] 3)).cell? ⟨w1.heap.size, 4, none⟩ = some (.slice none 0 0) := rd_cell 4 hz3 rfl
  have yV34 : ((w1.alloc (.cells #[.string ⟨#[]⟩, .slice none 0 0, .string ⟨#[]⟩, .string ⟨#[]⟩, .slice none 0 0, .slice none 0 0, .slice none 0 0, .string ⟨#[]⟩] 31)).alloc (.cells #[.int .i64 0] 3)).frozen? ⟨w1.heap.size, 4, none⟩ = false := cells_frozen 4 hz3
  have zV35 : ((w1.alloc (.cells #[.string ⟨#[]⟩, .slice none 0 0, .string ⟨#[]⟩, .string ⟨#[]⟩, .slice none 0 0, .slice none 0 0, .slice none 0 0, .string ⟨#[]⟩] 31)).alloc (.cells #[.int .i64 0] 3)).cell? ⟨w1.heap.size, 5, none⟩ = some (.slice none 0 0) := rd_cell 5 hz3 rfl
  have yV35 : ((w1.alloc (.cells #[.string ⟨#[]⟩, .slice none 0 0, .string ⟨#[]⟩, .string ⟨#[]⟩, .slice none 0 0, .slice none 0 0, .slice none 0 0, .string ⟨#[]⟩] 31)).alloc (.cells #[.int .i64 0] 3)).frozen? ⟨w1.heap.size, 5, none⟩ = false := cells_frozen 5 hz3
  have zV36 : ((w1.alloc (.cells #[.string ⟨#[]⟩, .slice none 0 0, .string ⟨#[]⟩, .string ⟨#[]⟩, .slice none 0 0, .slice none 0 0, .slice none 0 0, .string ⟨#[]⟩] 31)).alloc (.cells #[.int .i64 0] 3)).cell? ⟨w1.heap.size, 6, none⟩ = some (.slice none 0 0) := rd_cell 6 hz3 rfl
  have yV36 : ((w1.alloc (.cells #[.string ⟨#[]⟩, .slice none 0 0, .string ⟨#[]⟩, .string ⟨#[]⟩, .slice none 0 0, .slice none 0 0, .slice none 0 0, .string ⟨#[]⟩] 31)).alloc (.cells #[.int .i64 0] 3)).frozen? ⟨w1.heap.size, 6, none⟩ = false := cells_frozen 6 hz3
  have zV37 : ((w1.alloc (.cells #[.string ⟨#[]⟩, .slice none 0 0, .string ⟨#[]⟩, .string ⟨#[]⟩, .slice none 0 0, .slice none 0 0, .slice none 0 0, .string ⟨#[]⟩] 31)).alloc (.cells #[.int .i64 0] 3)).cell? ⟨w1.heap.size, 7, none⟩ = some (.string ⟨#[]⟩) := rd_cell 7 hz3 rfl
  have yV37 : ((w1.alloc (.cells #[.string ⟨#[]⟩, .slice none 0 0, .string ⟨#[]⟩, .string ⟨#[]⟩, .slice none 0 0, .slice none 0 0, .slice none 0 0, .string ⟨#[]⟩] 31)).alloc (.cells #[.int .i64 0] 3)).frozen? ⟨w1.heap.size, 7, none⟩ = false := cells_frozen 7 hz3
  have zV40 : ((w1.alloc (.cells #[.int .i64 0] 3)).alloc (.cells #[.string ⟨#[]⟩, .slice none 0 0, .string ⟨#[]⟩, .string ⟨#[]⟩, .slice none 0 0, .slice none 0 0, .slice none 0 0, .string ⟨#[]⟩] 31)).cell? ⟨w1.heap.size + 1, 0, none⟩ = some (.string ⟨#[]⟩) := rd_cell 0 hz4 rfl
  have yV40 : ((w1.alloc (.cells #[.int .i64 0] 3)).alloc (.cells #[.string ⟨#[]⟩, .slice none 0 0, .string ⟨#[]⟩, .string ⟨#[]⟩, .slice none 0 0, .slice none 0 0, .slice none 0 0, .string ⟨#[]⟩] 31)).frozen? ⟨w1.heap.size + 1, 0, none⟩ = false := cells_frozen 0 hz4
  have zV41 : ((w1.alloc (.cells #[.int .i64 0] 3)).alloc (.cells #[.string ⟨#[]⟩, .slice none 0 0, .string ⟨#[]⟩, .string ⟨#[]⟩, .slice none 0 0, .slice none 0 0, .slice none 0 0, .string ⟨#[]⟩] 31)).cell? ⟨w1.heap.size + 1, 1, none⟩ = some (.slice none 0 0) := rd_cell 1 hz4 rfl
  have yV41 : ((w1.alloc (.cells #[.int .i64 0] 3)).alloc (.cells #[.string ⟨#[]⟩, .slice none 0 0, .string ⟨#[]⟩, .string ⟨#[]⟩, .slice none 0 0, .slice none 0 0, .slice none 0 0, .string ⟨#[]⟩] 31)).frozen? ⟨w1.heap.size + 1, 1, none⟩ = false := cells_frozen 1 hz4
  have zV42 : ((w1.alloc (.cells #[.int .i64 0] 3)).alloc (.cells #[.string ⟨#[]⟩, .slice none 0 0, .string ⟨#[]⟩, .string ⟨#[]⟩, .slice none 0 0, .slice none 0 0, .slice none 0 0, .string ⟨#[]⟩] 31)).cell? ⟨w1.heap.size + 1, 2, none⟩ = some (.string ⟨#[]⟩) := rd_cell 2 hz4 rfl
  have yV42 : ((w1.alloc (.cells #[.int .i64 0] 3)).alloc (.cells #[.string ⟨#[]⟩, .slice none 0 0, .string ⟨#[]⟩, .string ⟨#[]⟩, .slice none 0 0, .slice none 0 0, .slice none 0 0, .string ⟨#[]⟩] 31)).frozen? ⟨w1.heap.size + 1, 2, none⟩ = false := cells_frozen 2 hz4
  have zV43 : ((w1.alloc (.cells #[.int .i64 0] 3)).alloc (.cells #[.string ⟨#[]⟩, .slice none 0 0, .string ⟨#[]⟩, .string ⟨#[]⟩, .slice none 0 0, .slice none 0 0, .slice none 0 0, .string ⟨#[]⟩] 31)).cell? ⟨w1.heap.size + 1, 3, none⟩ = some (.string ⟨#[]⟩) := rd_cell 3 hz4 rfl
  have yV43 : ((w1.alloc (.cells #[.int .i64 0] 3)).alloc (.cells #[.string ⟨#[]⟩, .slice none 0 0, .string ⟨#[]⟩, .string ⟨#[]⟩, .slice none 0 0, .slice none 0 0, .slice none 0 0, .string ⟨#[]⟩] 31)).frozen? ⟨w1.heap.size + 1, 3, none⟩ = false := cells_frozen 3 hz4
  have zV44 : ((w1.alloc (.cells #[.int .i64 0] 3)).alloc (.cells #[.string ⟨#[]⟩, .slice none 0 0, .string ⟨#[]⟩, .string ⟨#[]⟩, .slice none 0 0, .slice none 0 0, .slice none 0 0, .string ⟨#[]⟩] 31)).cell? ⟨w1.heap.size + 1, 4, none⟩ = some (.slice none 0 0) := rd_cell 4 hz4 rfl
  have yV44 : ((w1.alloc (.cells #[.int .i64 0] 3)).alloc (.cells #[.string ⟨#[]⟩, .slice none 0 0, .string ⟨#[]⟩, .string ⟨#[]⟩, .slice none 0 0, .slice none 0 0, .slice none 0 0, .string ⟨#[]⟩] 31)).frozen? ⟨w1.heap.size + 1, 4, none⟩ = false := cells_frozen 4 hz4
  have zV45 : ((w1.alloc (.cells #[.int .i64 0] 3)).alloc (.cells #[.string ⟨#[]⟩, .slice none 0 0, .string ⟨#[]⟩, .string ⟨#[]⟩, .slice none 0 0, .slice none 0 0, .slice none 0 0, .string ⟨#[]⟩] 31)).cell? ⟨w1.heap.size + 1, 5, none⟩ = some (.slice none 0 0) := rd_cell 5 hz4 rfl
  have yV45 : ((w1.alloc (.cells #[.int .i64 0] 3)).alloc (.cells #[.string ⟨#[]⟩, .slice none 0 0, .string ⟨#[]⟩, .string ⟨#[]⟩, .slice none 0 0, .slice none 0 0, .slice none 0 0, .string ⟨#[]⟩] 31)).frozen? ⟨w1.heap.size + 1, 5, none⟩ = false := cells_frozen 5 hz4
  have zV46 : ((w1.alloc (.cells #[.int .i64 0] 3)).alloc (.cells #[.string ⟨#[]⟩, .slice none 0 0, .string ⟨#[]⟩, .string ⟨#[]⟩, .slice none 0 0, .slice none 0 0, .slice none 0 0, .string ⟨#[]⟩] 31)).cell? ⟨w1.heap.size + 1, 6, none⟩ = some (.slice none 0 0) := rd_cell 6 hz4 rfl
  have yV46 : ((w1.alloc (.cells #[.int .i64 0] 3)).alloc (.cells #[.string ⟨#[]⟩, .slice none 0 0, .string ⟨#[]⟩, .string ⟨#[]⟩, .slice none 0 0, .slice none 0 0, .slice none 0 0, .string ⟨#[]⟩] 31)).frozen? ⟨w1.heap.size + 1, 6, none⟩ = false := cells_frozen 6 hz4
  have zV47 : ((w1.alloc (.cells #[.int .i64 0] 3)).alloc (.cells #[.string ⟨#[]⟩, .slice none 0 0, .string ⟨#[]⟩, .string ⟨#[]⟩, .slice none 0 0, .slice none 0 0, .slice none 0 0, .string ⟨#[]⟩] 31)).cell? ⟨w1.heap.size + 1, 7, none⟩ = some (.string ⟨#[]⟩) := rd_cell 7 hz4 rfl
  have yV47 : ((w1.alloc (.cells #[.int .i64 0] 3)).alloc (.cells #[.string ⟨#[]⟩, .slice none 0 0, .string ⟨#[]⟩, .string ⟨#[]⟩, .slice none 0 0, .slice none 0 0, .slice none 0 0, .string ⟨#[]⟩] 31)).frozen? ⟨w1.heap.size + 1, 7, none⟩ = false := cells_frozen 7 hz4
  have iV3 : ((w1.alloc (.cells #[.string ⟨#[]⟩, .slice none 0 0, .string ⟨#[]⟩, .string ⟨#[]⟩, .slice none 0 0, .slice none 0 0, .slice none 0 0, .string ⟨#[]⟩] 31)).alloc (.cells #[.int .i64 0] 3)).cell? ⟨w1.heap.size + 1, 0, none⟩ = some (.int .i64 0) := rd_cell 0 hi3 rfl
  have jV3 : ((w1.alloc (.cells #[.string ⟨#[]⟩, .slice none 0 0, .string ⟨#[]⟩, .string ⟨#[]⟩, .slice none 0 0, .slice none 0 0, .slice none 0 0, .string ⟨#[]⟩] 31)).alloc (.cells #[.int .i64 0] 3)).frozen? ⟨w1.heap.size + 1, 0, none⟩ = false := cells_frozen 0 hi3
  have iV4 : ((w1.alloc (.cells #[.int .i64 0] 3)).alloc (.cells #[.string ⟨#[]⟩, .slice none 0 0, .string ⟨#[]⟩, .string ⟨#[]⟩, .slice none 0 0, .slice none 0 0, .slice none 0 0, .string ⟨#[]⟩] 31)).cell? ⟨w1.heap.size, 0, none⟩ = some (.int .i64 0) := rd_cell 0 hi4 rfl
  have jV4 : ((w1.alloc (.cells #[.int .i64 0] 3)).alloc (.cells #[.string ⟨#[]⟩, .slice none 0 0, .string ⟨#[]⟩, .string ⟨#[]⟩, .slice none 0 0, .slice none 0 0, .slice none 0 0, .string ⟨#[]⟩] 31)).frozen? ⟨w1.heap.size, 0, none⟩ = false := cells_frozen 0 hi4
  clear hrd hrb
  clear hz3 hi3 hi4 hz4
  gi_wp2_with fail
  gi_region
  all_goals
    clear fV10 fV11 fV12 fV13 fV14 fV15 fV16 fV17 fV18 fV20 fV21 fV22 fV23 fV24 fV25 fV26 fV27 fV28 fV30 fV31 fV32 fV33 fV34 fV35 fV36 fV37 fV38 fV40 fV41 fV42 fV43 fV44 fV45 fV46 fV47 fV48 zV30 zV31 zV32 zV33 zV34 zV35 zV36 zV37 yV30 yV31 yV32 yV33 yV34 yV35 yV36 yV37 iV3 jV3 zV40 zV41 zV42 zV43 zV44 zV45 zV46 zV47 yV40 yV41 yV42 yV43 yV44 yV45 yV46 yV47 iV4 jV4 r0 r1 r2 r3 r4 r5 r6 r7 r8
    obtain ⟨L1, hL1⟩ : ∃ L, w1.heap.size = L := ⟨_, rfl⟩
  all_goals (first
    | (obtain ⟨W2, hW2⟩ : ∃ x, ((w1.alloc (.cells #[.string st.T.lang, .slice ae st.T.extl.length ac, .string st.T.script, .string st.T.region, .slice av st.T.vars.length vc, .slice ax st.T.exts.length xc, .slice ap st.T.priv.length pc, .string ByteArray.empty] 31)).alloc (.cells #[.int .i64 (st.last : Int)] 3)).drew = x := ⟨_, rfl⟩
       rw [hW2]
       have hb2 : Below w1.heap.size w1 W2 := by rw [← hW2]; exact (((Below.refl _ w1).alloc (Nat.le_refl _) _).alloc (by simp) _).drew
       have hs2 : W2.heap.size = w1.heap.size + 1 + 1 := by rw [← hW2]; simp [World.drew]
       have hT2 : W2.heap[w1.heap.size]? = some (.cells #[.string st.T.lang, .slice ae st.T.extl.length ac, .string st.T.script, .string st.T.region, .slice av st.T.vars.length vc, .slice ax st.T.exts.length xc, .slice ap st.T.priv.length pc, .string ByteArray.empty] 31 (0, 0)) := by
         rw [← hW2]
         show (World.alloc _ _).heap[_]? = _
         rw [Below.heap_alloc _ _ _ (by simp)]; exact World.alloc_heap_new w1 _
       have hE2 : W2.heap[w1.heap.size + 1]? = some (.cells #[.int .i64 (st.last : Int)] 3 (0, 0)) := by rw [← hW2]; exact heap_alloc2_new w1 _ _
       clear hW2
       rw [hL1] at hb2 hs2 hT2 hE2 ⊢
       obtain ⟨T6, hT6⟩ : ∃ x, x = L1 := ⟨_, rfl⟩
       obtain ⟨E7, hE7⟩ : ∃ x, x = L1 + 1 := ⟨_, rfl⟩
       rw [← hE7] at hE2 ⊢
       rw [← hT6] at hT2 ⊢)
    | (obtain ⟨W2, hW2⟩ : ∃ x, ((w1.alloc (.cells #[.int .i64 (st.last : Int)] 3)).alloc (.cells #[.string st.T.lang, .slice ae st.T.extl.length ac, .string st.T.script, .string st.T.region, .slice av st.T.vars.length vc, .slice ax st.T.exts.length xc, .slice ap st.T.priv.length pc, .string ByteArray.empty] 31)).drew = x := ⟨_, rfl⟩
       rw [hW2]
       have hb2 : Below w1.heap.size w1 W2 := by rw [← hW2]; exact (((Below.refl _ w1).alloc (Nat.le_refl _) _).alloc (by simp) _).drew
       have hs2 : W2.heap.size = w1.heap.size + 1 + 1 := by rw [← hW2]; simp [World.drew]
       have hE2 : W2.heap[w1.heap.size]? = some (.cells #[.int .i64 (st.last : Int)] 3 (0, 0)) := by
         rw [← hW2]
         show (World.alloc _ _).heap[_]? = _
         rw [Below.heap_alloc _ _ _ (by simp)]; exact World.alloc_heap_new w1 _
       have hT2 : W2.heap[w1.heap.size + 1]? = some (.cells #[.string st.T.lang, .slice ae st.T.extl.length ac, .string st.T.script, .string st.T.region, .slice av st.T.vars.length vc, .slice ax st.T.exts.length xc, .slice ap st.T.priv.length pc, .string ByteArray.empty] 31 (0, 0)) := by rw [← hW2]; exact heap_alloc2_new w1 _ _
       clear hW2
       rw [hL1] at hb2 hs2 hT2 hE2 ⊢
       obtain ⟨E7, hE7⟩ : ∃ x, x = L1 := ⟨_, rfl⟩
       obtain ⟨T6, hT6⟩ : ∃ x, x = L1 + 1 := ⟨_, rfl⟩
       rw [← hT6] at hT2 ⊢
       rw [← hE7] at hE2 ⊢))
  all_goals
    have hTL : L1 ≤ T6 ∧ T6 < W2.heap.size := by omega
    have hEL : L1 ≤ E7 ∧ E7 < W2.heap.size := by omega
    have hTE : T6 ≠ E7 := by omega
    clear hT6 hE7
    have hwL : w.heap.size + 1 < L1 := by have := hb1.size; omega
    have HB2 := Lib.hid (show Below w.heap.size w W2 from HB0.out.trans ((hb1.mono HB0.out.size).trans ((show Below w1.heap.size w1 W2 by rw [hL1]; exact hb2).mono (by have := hb1.size; omega))))
    have HX2 := Lib.hid ((hb2.block w.heap.size (by omega)).trans ((hb1.block w.heap.size (by omega)).trans HX0.out))
    have HY2 := Lib.hid ((hb2.block (w.heap.size + 1) (by omega)).trans ((hb1.block (w.heap.size + 1) (by omega)).trans HY0.out))
    have HBW := Lib.hid hb2
    have hg2 := HG.out.below HB2.out HG.out.size
    clear hb2
    rename_i K hK
    refine hK _ _ ?_
    exact first_rest hs hst hg2 hgr hIS hL1 HB2 HBW HX2 HY2 hT2 hE2 hTL hEL hTE hwL
end Go.Proofs.YtpnhjpplfjamkaaGreatDoor
