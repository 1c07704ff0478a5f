/-
  Package pack: mayBe, packed, clearUnless, Pack. Package pack: Put and Get. strings.TrimRight of the byte 0; package pack: clearUnless, Unpack. The document's own May, Pack. The document's own Unpack.
-/
import Derived.Test.YtbafmnafhaoggaaGreatDoorBMaths
import Derived.Test.YtbafmnafhaoggaaGreatDoorBase
import Derived.Lib.EndianBits
import Derived.Defers
import Derived.Recover
import Derived.StillTailTactics
/-! Package pack: mayBe, packed, clearUnless, Pack. -/
namespace Go.Proofs.YtbafmnafhaoggaaGreatDoor
open Go Go.RowKit

/-- The kinds of bytes that mayBe asks for. -/
inductive Pd (c : UInt8) : Prop
  | low (h1 : 97 ≤ c.toNat) (h2 : c.toNat ≤ 122)
  | dig (h1 : 48 ≤ c.toNat) (h2 : c.toNat ≤ 57)
  | star (h : c.toNat = 42)
  | bang (h : c.toNat = 33)
  | dollar (h : c.toNat = 36)
  | n1 (h : c.toNat < 33)
  | n2 (h1 : 33 < c.toNat) (h2 : c.toNat < 36)
  | n3 (h1 : 36 < c.toNat) (h2 : c.toNat < 42)
  | n4 (h1 : 42 < c.toNat) (h2 : c.toNat < 48)
  | n5 (h1 : 57 < c.toNat) (h2 : c.toNat < 97)
  | n6 (h1 : 122 < c.toNat)
theorem pd (c : UInt8) : Pd c := by
  by_cases h1 : c.toNat < 33
  · exact .n1 h1
  by_cases h2 : c.toNat = 33
  · exact .bang h2
  by_cases h3 : c.toNat < 36
  · exact .n2 (by omega) h3
  by_cases h4 : c.toNat = 36
  · exact .dollar h4
  by_cases h5 : c.toNat < 42
  · exact .n3 (by omega) h5
  by_cases h6 : c.toNat = 42
  · exact .star h6
  by_cases h7 : c.toNat < 48
  · exact .n4 (by omega) h7
  by_cases h8 : c.toNat ≤ 57
  · exact .dig (by omega) h8
  by_cases h9 : c.toNat < 97
  · exact .n5 (by omega) h9
  by_cases h10 : c.toNat ≤ 122
  · exact .low (by omega) h10
  · exact .n6 (by omega)
theorem isP_val (c : UInt8) : isP c = (decide (97 ≤ c.toNat ∧ c.toNat ≤ 122) || decide (48 ≤ c.toNat ∧ c.toNat ≤ 57) || decide (c.toNat = 42) || decide (c.toNat = 33) || decide (c.toNat = 36)) := by
  revert c
  exact byte_all _ (by decide +kernel)

set_option maxRecDepth 100000 in
theorem mayBe_any (c : UInt8) (w : World) :
    Calls Tryz.prog 124 #[.int .u8 c.toNat] w fun e w' => e = .returned (.bool (isP c)) ∧ w = w' := by
  have HV := Lib.hid (isP_val c)
  rcases pd c with ⟨h1, h2⟩ | ⟨h1, h2⟩ | h | h | h | h | ⟨h1, h2⟩ | ⟨h1, h2⟩ | ⟨h1, h2⟩ | ⟨h1, h2⟩ | h1
  all_goals
    go_enter Tryz.func124, Tryz.ntmps124
    go_wp2
    go_ret
    refine ⟨ret_bool ?_, rfl⟩
    rw [HV.out]
    simp
    omega

theorem packT_at {s : ByteArray} {k : Nat} (h : k < s.size) (hp : isP s[k] = false) : packT s = false := by
  cases hh : packT s with
  | false => rfl
  | true =>
    have := ((packT_iff s).1 hh).2 s[k] (by rw [show s[k] = (bs s)[k]'(by rw [size_bs]; exact h) from rfl]; exact List.getElem_mem _)
    rw [hp] at this; cases this
set_option maxRecDepth 100000 in
theorem packed_any (s : ByteArray) (w : World) (hs : s.size ≤ maxLen) :
    Calls Tryz.prog 101 #[.string s] w fun e w' => e = .returned (.bool (packT s)) ∧ w = w' := by
  unfold maxLen at hs
  by_cases h8 : 8 < s.size
  · have HE := Lib.hid (show packT s = false by unfold packT; rw [decide_eq_false (by omega)]; rfl)
    have h' : (8 : Int) < (s.size : Int) := by omega
    go_enter Tryz.func101, Tryz.ntmps101
    go_wp2
    go_ret
    exact ⟨ret_bool HE.out.symm, rfl⟩
  · have h' : ¬ (8 : Int) < (s.size : Int) := by omega
    go_enter Tryz.func101, Tryz.ntmps101
    go_wp2
    go_loop [9] (fun i => ∃ k : Nat, k ≤ s.size ∧ i = .int .i64 k ∧ ((bs s).take k).all isP = true) (fun i => s.size - (intOf i).toNat)
    case atStart => exact ⟨0, Nat.zero_le _, rfl, by simp⟩
    case round =>
      obtain ⟨k, hk, rfl, HR⟩ := hrel
      by_cases hlt : k < s.size
      · rcases hP : isP s[k] with _ | _
        · have HP := Lib.hid hP
          have HF := Lib.hid (packT_at hlt hP)
          clear hP HR
          go_wp2_with (go_at_call 124; refine (mayBe_any _ _).mono ?_; rintro e w' ⟨rfl, rfl⟩; rw [HP.out])
          go_ret
          exact ⟨ret_bool HF.out.symm, rfl⟩
        · have HP := Lib.hid hP
          have HS := Lib.hid (show ((bs s).take (k + 1)).all isP = true by rw [all_take_succ _ _ _ hlt, HR, hP]; rfl)
          clear hP HR
          go_wp2_with (go_at_call 124; refine (mayBe_any _ _).mono ?_; rintro e w' ⟨rfl, rfl⟩; rw [HP.out])
          go_round
          case rel => exact ⟨k + 1, by omega, by go_num, HS.out⟩
          case measure => simp [intOf]; omega
      · obtain rfl : k = s.size := by omega
        have HF := Lib.hid (show packT s = true by
          unfold packT
          rw [List.take_of_length_le (by rw [size_bs]; exact Nat.le_refl _)] at HR
          rw [HR, decide_eq_true (by omega)]; rfl)
        clear HR
        go_wp2
        go_ret
        exact ⟨ret_bool HF.out.symm, rfl⟩

set_option maxRecDepth 100000 in
/-- clearUnless, deferred: what is told may be. -/
theorem clearU_keep (a b : Addr) (u : FrameMode) (w : World) (h : w.cell? a = some (.bool true)) :
    CallsD Tryz.prog 99 #[.pointer (some a), .pointer (some b)] u w fun e u' w' => u' = u ∧ (e = .returned (.tuple #[]) ∧ w' = w) := by
  go_enter_d Tryz.func99, Tryz.ntmps99
  go_wp2
  go_end0
  exact ⟨rfl, rfl⟩
set_option maxRecDepth 100000 in
theorem clearU_clear (a b : Addr) (v : Value) (u : FrameMode) (w : World) (h : w.cell? a = some (.bool false)) (hb : w.cell? b = some v) (hf : w.frozen? b = false) :
    CallsD Tryz.prog 99 #[.pointer (some a), .pointer (some b)] u w fun e u' w' => u' = u ∧ (e = .returned (.tuple #[]) ∧ w' = w.setCell b (.int .u64 0)) := by
  go_enter_d Tryz.func99, Tryz.ntmps99
  go_wp2
  go_end0
  exact ⟨rfl, rfl⟩

/-- What Pack's rounds keep: the number so far, and that nothing is told yet. -/
structure PkI (t : ByteArray) (w : World) (k : Nat) (wr : World) : Prop where
  n : wr.cell? ⟨w.heap.size, 0, none⟩ = some (.int .u64 ((num k (bs t) : Nat) : Int))
  ok : wr.cell? ⟨w.heap.size + 1, 0, none⟩ = some (.bool false)
  fn : wr.frozen? ⟨w.heap.size, 0, none⟩ = false
  fo : wr.frozen? ⟨w.heap.size + 1, 0, none⟩ = false
  bel : Below w.heap.size w wr

theorem PkI.turn {t : ByteArray} {w wr : World} {k j : Nat} (h : PkI t w k wr) (v : Int) (hv : v = ((num j (bs t) : Nat) : Int)) : PkI t w j (wr.setCell ⟨w.heap.size, 0, none⟩ (.int .u64 v)) := by
  obtain ⟨r1, r2, r3, r4, r5⟩ := h
  exact ⟨by rw [hv]; exact World.cell?_setCell_same _ _ _ r1, (World.cell?_setCell_other _ _ _ _ (by simp)).trans r2, by rw [World.frozen?_setCell]; exact r3, by rw [World.frozen?_setCell]; exact r4, r5.setCell (p := ⟨w.heap.size, 0, none⟩) (Nat.le_refl _) _⟩
theorem PkI.turn2 {t : ByteArray} {w wr : World} {k j : Nat} (h : PkI t w k wr) (v1 v : Int) (hv : v = ((num j (bs t) : Nat) : Int)) : PkI t w j ((wr.setCell ⟨w.heap.size, 0, none⟩ (.int .u64 v1)).setCell ⟨w.heap.size, 0, none⟩ (.int .u64 v)) := by
  obtain ⟨r1, r2, r3, r4, r5⟩ := h
  exact ⟨by rw [hv]; exact World.cell?_setCell_same _ _ _ (World.cell?_setCell_same _ _ _ r1), (World.cell?_setCell_other _ _ _ _ (by simp)).trans ((World.cell?_setCell_other _ _ _ _ (by simp)).trans r2), by rw [World.frozen?_setCell, World.frozen?_setCell]; exact r3, by rw [World.frozen?_setCell, World.frozen?_setCell]; exact r4, (r5.setCell (p := ⟨w.heap.size, 0, none⟩) (Nat.le_refl _) _).setCell (p := ⟨w.heap.size, 0, none⟩) (Nat.le_refl _) _⟩
theorem PkI.drew {t : ByteArray} {w wr : World} {k : Nat} (h : PkI t w k wr) : PkI t w k wr.drew := by
  obtain ⟨r1, r2, r3, r4, r5⟩ := h
  exact ⟨r1, r2, r3, r4, r5.drew⟩
theorem shl8 (x : Nat) (h : x < 72057594037927936) : IntKind.u64.wrap ((x : Int) * 256) = (x : Int) * 256 := u64_wrap_id _ (by omega) (by omega)
theorem or8 (x : Nat) (c : UInt8) (h : x < 72057594037927936) : bits .or .u64 ((x : Int) * 256) (c.toNat : Int) = (x : Int) * 256 + (c.toNat : Int) := by
  have := c.toNat_lt
  exact bits_join .u64 64 (by decide) (fun n h0 h1 => u64_wrap_id n h0 h1) 8 _ _ (by omega) (by omega) (by omega) (by omega) (by omega) (by omega)
theorem num_room (k : Nat) (l : List UInt8) (h : k < 8) : num k l < 72057594037927936 := by
  have := num_lt k l
  have h2 : (256 : Nat) ^ k ≤ 256 ^ 7 := Nat.pow_le_pow_right (by decide) (by omega)
  omega
theorem num_at (k : Nat) (t : ByteArray) (h : k < t.size) : num (k + 1) (bs t) = num k (bs t) * 256 + t[k].toNat := by
  have hk : k < (bs t).length := by rw [size_bs]; exact h
  rw [num_succ, List.getElem?_eq_getElem hk]
  rfl
theorem num_past (k : Nat) (t : ByteArray) (h : ¬ k < t.size) : num (k + 1) (bs t) = num k (bs t) * 256 := by
  have hk : (bs t).length ≤ k := by rw [size_bs]; omega
  rw [num_succ, List.getElem?_eq_none hk]
  simp

set_option maxRecDepth 100000 in
set_option maxHeartbeats 1000000 in
theorem pack_any (s : ByteArray) (w : World) (hs : s.size ≤ 140737488351232) :
    Calls Tryz.prog 78 #[.string s] w fun e w' => e = .returned (.tuple #[.int .u64 ((packN s : Nat) : Int), .bool (packT (lowS s))]) ∧ Below w.heap.size w w' := by
  obtain ⟨t, ht⟩ : ∃ t, lowS s = t := ⟨_, rfl⟩
  have HN : Hid (packN s = if packT t then num 8 (bs t) else 0) := by unfold packN; rw [ht]; exact Lib.hid rfl
  have hts : t.size ≤ 140737488351232 := by rw [← ht, size_lowS]; exact hs
  have HTM := Lib.hid (show t.size ≤ maxLen by unfold maxLen; omega)
  have HL := Lib.hid (fun w5 => (lower_text s w5 hs).mono (R' := fun e w6 => e = .returned (.string t) ∧ Below w5.heap.size w5 w6) fun e w6 ⟨p, q⟩ => ⟨by rw [p, ht], q⟩)
  rw [ht]
  clear ht
  rcases hP : packT t with _ | _
  all_goals
    have HP := Lib.hid hP
    rw [hP] at HN
    clear hP
    go_enter_defers Tryz.func78, Tryz.ntmps78
    go_wp2_with fail
    refine (HL.out _).mono ?_
    rintro e w1 ⟨rfl, hb1⟩
    have HI : PkI t w 0 w1 := by
      refine ⟨(hb1.cell (p := ⟨w.heap.size, 0, none⟩) (by simp; omega)).trans (by simp [num]), (hb1.cell (p := ⟨w.heap.size + 1, 0, none⟩) (by simp)).trans (by simp), (hb1.frozen (p := ⟨w.heap.size, 0, none⟩) (by simp; omega)).trans (by simp), (hb1.frozen (p := ⟨w.heap.size + 1, 0, none⟩) (by simp)).trans (by simp), ?_⟩
      exact (((Below.refl _ w).alloc (Nat.le_refl _) _).alloc (by simp) _).trans (hb1.mono (by simp; omega))
    clear hb1
    go_wp2
    go_loopw [8] (fun i wr => ∃ k : Nat, k ≤ 8 ∧ i = .int .i64 k ∧ PkI t w k wr) (fun i _ => 8 - (intOf i).toNat)
    case atStart => exact ⟨0, Nat.zero_le _, rfl, HI⟩
    case round =>
      obtain ⟨k, hk, rfl, HR⟩ := hrel
      by_cases hlt : k < 8
      · have HA := Lib.hid (num_at k t)
        have HB := Lib.hid (num_past k t)
        have hxl := num_room k (bs t) hlt
        have r1 := HR.n
        obtain ⟨x, hx⟩ : ∃ x, num k (bs t) = x := ⟨_, rfl⟩
        rw [hx] at r1 hxl HA HB
        have r3 := HR.fn
        have hsh := shl8 x hxl
        have HR' := Lib.hid HR
        clear HR hx
        by_cases hkt : k < t.size
        · have hor := or8 x t[k] hxl
          have hwc : IntKind.u64.wrap (t[k].toNat : Int) = (t[k].toNat : Int) := by
            have := t[k].toNat_lt
            exact u64_wrap_id _ (by omega) (by omega)
          go_wp2
          go_region
          go_wp2
          go_roundw
          case rel => exact ⟨k + 1, by omega, by go_num, (HR'.out.turn2 _ _ (by rw [HA.out hkt]; simp)).drew⟩
          case measure => simp [intOf]; omega
        · go_wp2
          go_roundw
          case rel => exact ⟨k + 1, by omega, by go_num, HR'.out.turn _ (by rw [HB.out hkt]; simp)⟩
          case measure => simp [intOf]; omega
      · obtain rfl : k = 8 := by omega
        have HR' := Lib.hid HR
        obtain ⟨r1, r2, r3, r4, r5⟩ := HR
        have hq : ∀ w5, Calls Tryz.prog 101 #[.string t] w5 fun e w'' => e = .returned (.bool (packT t)) ∧ w'' = w5 := fun w5 => (packed_any t w5 HTM.out).mono fun _ _ ⟨p, q⟩ => ⟨p, q.symm⟩
        rw [HP.out] at hq
        go_wp2
        refine wp_region_still_tail 3 (by kernel_rfl) (by kernel_rfl) ?_
        simp only [List.take_succ_cons, List.take_zero, List.drop_succ_cons, List.drop_zero]
        still_step
        still_step
        still_call (hq _)
        refine wpStill_nil ?_
        obtain ⟨r1, r2, r3, r4, r5⟩ := HR'.out.drew
        change wpList _ _ _ _ _ wr.drew
        generalize wr.drew = w2 at *
        go_wp2
        refine leaves_cons (f := 99) (args := #[.pointer (some ⟨w.heap.size + 1, 0, none⟩), .pointer (some ⟨w.heap.size, 0, none⟩)]) (by simp) (by simp [go_sem]) ?_
        have hB := (r5.setCell (p := ⟨w.heap.size, 0, none⟩) (Nat.le_refl _) (.int .u64 ((num 8 (bs t) : Nat) : Int)))
        have c1 : (w2.setCell ⟨w.heap.size, 0, none⟩ (.int .u64 ((num 8 (bs t) : Nat) : Int))).cell? ⟨w.heap.size, 0, none⟩ = some (.int .u64 ((num 8 (bs t) : Nat) : Int)) := World.cell?_setCell_same _ _ _ r1
        have c2 : (w2.setCell ⟨w.heap.size, 0, none⟩ (.int .u64 ((num 8 (bs t) : Nat) : Int))).cell? ⟨w.heap.size + 1, 0, none⟩ = some (.bool false) := (World.cell?_setCell_other _ _ _ _ (by simp)).trans r2
        have f1 : (w2.setCell ⟨w.heap.size, 0, none⟩ (.int .u64 ((num 8 (bs t) : Nat) : Int))).frozen? ⟨w.heap.size, 0, none⟩ = false := by rw [World.frozen?_setCell]; exact r3
        generalize w2.setCell ⟨w.heap.size, 0, none⟩ (.int .u64 ((num 8 (bs t) : Nat) : Int)) = w3 at *
        have hB' := hB.setCell (p := ⟨w.heap.size + 1, 0, none⟩) (by simp) (.bool (packT t))
        have c3 : (w3.setCell ⟨w.heap.size + 1, 0, none⟩ (.bool (packT t))).cell? ⟨w.heap.size, 0, none⟩ = some (.int .u64 ((num 8 (bs t) : Nat) : Int)) := (World.cell?_setCell_other _ _ _ _ (by simp)).trans c1
        have c4 : (w3.setCell ⟨w.heap.size + 1, 0, none⟩ (.bool (packT t))).cell? ⟨w.heap.size + 1, 0, none⟩ = some (.bool (packT t)) := World.cell?_setCell_same _ _ _ c2
        have f3 : (w3.setCell ⟨w.heap.size + 1, 0, none⟩ (.bool (packT t))).frozen? ⟨w.heap.size, 0, none⟩ = false := by rw [World.frozen?_setCell]; exact f1
        rw [HP.out] at hB' c3 c4 f3
        have hn := HN.out
        clear c1 c2 f1 r1 r2 r3 r4 r5 HR' hq
        first
        | refine (clearU_clear _ _ _ _ _ c4 c3 f3).mono ?_
          rintro e u' w'' ⟨rfl, rfl, rfl⟩
          rw [if_neg (by simp)] at hn
          have c5 := World.cell?_setCell_same _ _ (.int .u64 0) c3
          have c6 := (World.cell?_setCell_other _ ⟨w.heap.size, 0, none⟩ ⟨w.heap.size + 1, 0, none⟩ (.int .u64 0) (by simp)).trans c4
          have hB6 := hB'.setCell (p := ⟨w.heap.size, 0, none⟩) (Nat.le_refl _) (.int .u64 0)
          simp [Leaves, settle, results, Tryz.results78, go_sem, c5, c6, hB6, hn]
        | refine (clearU_keep _ _ _ _ c4).mono ?_
          rintro e u' w'' ⟨rfl, rfl, rfl⟩
          simp only [if_true] at hn
          simp [Leaves, settle, results, Tryz.results78, go_sem, c3, c4, hB', hn]
end Go.Proofs.YtbafmnafhaoggaaGreatDoor

/-! Package pack: Put and Get. -/
namespace Go.Proofs.YtbafmnafhaoggaaGreatDoor
open Go Go.RowKit

/-- What Put's rounds keep. -/
def PuI (n k : Nat) (w : World) (i : Nat) (wr : World) : Prop :=
  wr.ownsRow w.heap.size 5 1 (.slice (some ⟨w.heap.size, 0, none⟩) k k) k (bcells (List.replicate (k - i) 0 ++ putL n i)) ∧ Below w.heap.size w wr
theorem PuI.start {n k : Nat} {w w1 : World} (h : w1.ownsRow w.heap.size 5 1 (.slice (some ⟨w.heap.size, 0, none⟩) k k) k (madeCells (Value.int .u8 0).cells (k * 1)).toList) (hg : w.grownBy w1 none) : PuI n k w 0 w1 := by
  refine ⟨?_, (Below.refl _ w).grown hg (Nat.le_refl _) (fun _ h => by cases h)⟩
  rw [made_bcells] at h
  simpa [putL] using h
theorem PuI.cell {n k i : Nat} {w wr : World} (h : PuI n k w i wr) (hi : i < k) : (∃ v, wr.cell? ⟨w.heap.size, k - 1 - i, none⟩ = some v) ∧ wr.frozen? ⟨w.heap.size, k - 1 - i, none⟩ = false := by
  refine ⟨?_, h.1.frozenAt _⟩
  rw [h.1.cellAt _ (by omega)]
  have hl : k - 1 - i < (bcells (List.replicate (k - i) 0 ++ putL n i)).length := by rw [length_bcells, List.length_append, List.length_replicate, length_putL]; omega
  exact ⟨_, List.getElem?_eq_getElem hl⟩
theorem put_set (n k i : Nat) (hi : i < k) : (List.replicate (k - i) 0 ++ putL n i).set (k - 1 - i) (byteAt n i) = List.replicate (k - (i + 1)) 0 ++ putL n (i + 1) := by
  rw [List.set_append_left _ _ (by rw [List.length_replicate]; omega), show k - i = (k - (i + 1)) + 1 by omega, List.replicate_succ', List.set_append_right _ _ (by rw [List.length_replicate]; omega), List.length_replicate, show k - 1 - i - (k - (i + 1)) = 0 by omega]
  simp [putL]
theorem PuI.step {n k i : Nat} {w wr : World} (h : PuI n k w i wr) (hi : i < k) : PuI n k w (i + 1) (wr.setCell ⟨w.heap.size, k - 1 - i, none⟩ (.int .u8 ((byteAt n i).toNat : Int))) := by
  refine ⟨?_, h.2.setCell (p := ⟨w.heap.size, k - 1 - i, none⟩) (Nat.le_refl _) _⟩
  have h1 := (h.1.stored (k - 1 - i) (.int .u8 ((byteAt n i).toNat : Int))).1
  rw [bcells_set, put_set n k i hi] at h1
  exact h1
theorem PuI.conv {n k : Nat} {w wr : World} (h : PuI n k w k wr) : (convert 37 9 (.slice (some ⟨w.heap.size, 0, none⟩) k k)).run Tryz.prog wr = .ok (.string (ofL (putL n k))) wr := by
  have h1 := h.1
  rw [Nat.sub_self, List.replicate_zero, List.nil_append] at h1
  have hl := length_putL n k
  have := conv_owned (v := .slice (some ⟨w.heap.size, 0, none⟩) k k) (B := w.heap.size) (w := wr) (putL n k)
  rw [hl] at this
  exact this h1

theorem byte_int (n j : Nat) : ((n : Int) / 2 ^ (8 * j) % 256) = ((byteAt n j).toNat : Int) := by
  rw [byteAt_nat, show ((2 : Int) ^ (8 * j)) = ((256 ^ j : Nat) : Int) by rw [Int.pow_mul]; simp]
  simp

set_option maxRecDepth 100000 in
set_option maxHeartbeats 1000000 in
theorem put_any (n k : Nat) (w : World) (hk : k ≤ 8) :
    Calls Tryz.prog 55 #[.int .u64 (n : Int), .int .i64 (k : Int)] w fun e w' => e = .returned (.string (ofL (putL n k))) ∧ Below w.heap.size w w' := by
  obtain ⟨i0, hi, hz0, hz1, hz2⟩ := info_parts byteInfo
  go_enter Tryz.func55, Tryz.ntmps55
  go_wp2_with (refine wpList_make_full _ rfl _ _ 37 rfl w.heap.size 5 i0 (.int .u8 0) 1 Tryz.underlying37 hi hz0 hz1 .i64 .i64 _ _ k rfl rfl rfl rfl (by rw [hz2]; omega) (by unfold maxLen; omega) (Nat.le_refl _) ?_; intro w1 hown hgrow)
  have HI := PuI.start (n := n) hown hgrow
  clear hown hgrow
  go_loopw [13] (fun i wr => ∃ j : Nat, j ≤ k ∧ i = .int .i64 j ∧ PuI n k w j wr) (fun i _ => k - (intOf i).toNat)
  case atStart => exact ⟨0, Nat.zero_le _, rfl, HI⟩
  case round =>
    obtain ⟨j, hj, rfl, HR⟩ := hrel
    by_cases hlt : j < k
    · obtain ⟨⟨v0, hc⟩, hf⟩ := HR.cell hlt
      have HS := Lib.hid (HR.step hlt)
      rw [← byte_int n j] at HS
      clear HR
      go_wp2
      go_roundw
      case rel => exact ⟨j + 1, by omega, by go_num, HS.out⟩
      case measure => simp [intOf]; omega
    · obtain rfl : j = k := by omega
      have hconv := HR.conv
      go_wp2
      go_ret
      exact ⟨rfl, HR.2⟩

theorem put8 (n : Nat) (w : World) : Calls Tryz.prog 55 #[.int .u64 (n : Int), .int .i64 8] w fun e w' => e = .returned (.string (ofL (putL n 8))) ∧ Below w.heap.size w w' := put_any n 8 w (by decide)
/- Get. -/
theorem num_drop (a j : Nat) (s : ByteArray) (h : a + j < s.size) : num (j + 1) ((bs s).drop a) = num j ((bs s).drop a) * 256 + s[a + j].toNat := by
  have hk : a + j < (bs s).length := by rw [size_bs]; exact h
  rw [num_succ, List.getElem?_drop, List.getElem?_eq_getElem hk]
  rfl

set_option maxRecDepth 100000 in
set_option maxHeartbeats 1000000 in
theorem get_any (s : ByteArray) (a k : Nat) (w : World) (hs : s.size ≤ maxLen) (hk : k ≤ 8) (ha : a + k ≤ s.size) :
    Calls Tryz.prog 92 #[.string s, .int .i64 (a : Int), .int .i64 (k : Int)] w fun e w' => e = .returned (.tuple #[.int .u64 ((num k ((bs s).drop a) : Nat) : Int), .bool true]) ∧ w = w' := by
  unfold maxLen at hs
  have h1 : ¬ (8 : Int) < (k : Int) := by omega
  have h2 : ¬ ((s.size : Int) - (k : Int) < (a : Int)) := by omega
  go_enter Tryz.func92, Tryz.ntmps92
  go_wp2
  go_loop [8, 29] (fun x i => ∃ j : Nat, j ≤ k ∧ i = .int .i64 j ∧ x = .int .u64 ((num j ((bs s).drop a) : Nat) : Int)) (fun _ i => k - (intOf i).toNat)
  case atStart => exact ⟨0, Nat.zero_le _, rfl, rfl⟩
  case round =>
    obtain ⟨j, hj, rfl, rfl⟩ := hrel
    by_cases hlt : j < k
    · have hlt' : a + j < s.size := by omega
      have HA := Lib.hid (num_drop a j s hlt')
      have hxl := num_room j ((bs s).drop a) (by omega)
      generalize num j ((bs s).drop a) = x at *
      have hsh := shl8 x hxl
      have hor := or8 x s[a + j] hxl
      have hwc : IntKind.u64.wrap (s[a + j].toNat : Int) = (s[a + j].toNat : Int) := by
        have := s[a + j].toNat_lt
        exact u64_wrap_id _ (by omega) (by omega)
      go_wp2
      go_round
      case rel => exact ⟨j + 1, by omega, by go_num, by rw [HA.out]; simp⟩
      case measure => simp [intOf]; omega
    · obtain rfl : j = k := by omega
      go_wp2
      go_ret2
      exact ⟨rfl, rfl⟩
end Go.Proofs.YtbafmnafhaoggaaGreatDoor

/-! strings.TrimRight of the byte 0; package pack: clearUnless, Unpack. -/
namespace Go.Proofs.YtbafmnafhaoggaaGreatDoor
open Go Go.RowKit

def sizeOf' : Value → Nat
  | .string t => t.size
  | _ => 0
/-- What the rounds keep: a text that trims to the same. -/
def TrI (s t : ByteArray) : Prop := t.size ≤ s.size ∧ trimZ (bs t) = trimZ (bs s)
theorem bs_last {t : ByteArray} {m : Nat} (h : t.size = m + 1) : bs t = bs (t.extract 0 m) ++ [t[m]'(by omega)] := by
  have hl : m < (bs t).length := by rw [size_bs]; omega
  rw [bs_extract, List.drop_zero, Nat.sub_zero]
  have e : (bs t).take (m + 1) = (bs t).take m ++ [t[m]'(by omega)] := bs_take_succ t m (by omega)
  rw [List.take_of_length_le (by rw [size_bs]; omega)] at e
  exact e
theorem TrI.step {s t : ByteArray} {m : Nat} (h : TrI s t) (hm : t.size = m + 1) (hc : (t[m]'(by omega)).toNat = 0) : TrI s (t.extract 0 m) := by
  refine ⟨by rw [ByteArray.size_extract]; have := h.1; omega, ?_⟩
  rw [← h.2, bs_last hm, show t[m]'(by omega) = 0 from UInt8.toNat_inj.1 (by simpa using hc), trimZ_zero]
theorem TrI.stop {s t : ByteArray} {m : Nat} (h : TrI s t) (hm : t.size = m + 1) (hc : (t[m]'(by omega)).toNat ≠ 0) : t = ofL (trimZ (bs s)) := by
  have e := bs_last hm
  rw [← h.2, e, trimZ_stop _ _ (fun h0 => hc (by rw [h0]; rfl)), ← e]
  exact (ofL_bs t).symm
theorem TrI.empty {s t : ByteArray} (h : TrI s t) (hm : t.size = 0) : t = ofL (trimZ (bs s)) := by
  have e : bs t = [] := List.eq_nil_of_length_eq_zero (by rw [size_bs]; exact hm)
  rw [← h.2, e, trimZ_nil, ← e]
  exact (ofL_bs t).symm

set_option maxRecDepth 100000 in
set_option maxHeartbeats 1000000 in
theorem trimByte_any (s : ByteArray) (w : World) (hs : s.size ≤ 140737488351232) :
    Calls Tryz.prog 133 #[.string s, .int .u8 0] w fun e w' => e = .returned (.string (ofL (trimZ (bs s)))) ∧ w = w' := by
  go_enter Tryz.func133, Tryz.ntmps133
  go_wp2
  go_loop [0] (fun x => ∃ t : ByteArray, x = .string t ∧ TrI s t) (fun x => sizeOf' x)
  case atStart => exact ⟨s, rfl, Nat.le_refl _, rfl⟩
  case round =>
    obtain ⟨t, rfl, HR⟩ := hrel
    have hts := HR.1
    rcases hm : t.size with _ | m
    · have HE := Lib.hid (HR.empty hm)
      clear HR
      go_wp2
      go_ret
      exact ⟨ret_string HE.out, rfl⟩
    · by_cases hc : (t[m]'(by omega)).toNat = 0
      · have HS := Lib.hid (HR.step hm hc)
        clear HR
        go_wp2
        go_round
        case rel => exact ⟨_, rfl, HS.out⟩
        case measure => simp only [sizeOf', ByteArray.size_extract]; omega
      · have HS := Lib.hid (HR.stop hm hc)
        clear HR
        go_wp2
        go_ret
        exact ⟨ret_string HS.out, rfl⟩
set_option maxRecDepth 100000 in
theorem trim_core (s z : ByteArray) (w : World) (hs : s.size ≤ 140737488351232) (hz : z.size = 1) (hz0 : (z[0]'(by omega)).toNat = 0) :
    Calls Tryz.prog 114 #[.string s, .string z] w fun e w' => e = .returned (.string (ofL (trimZ (bs s)))) ∧ w = w' := by
  have HT := Lib.hid (fun w5 => trimByte_any s w5 hs)
  have hze := empty_false (s := z) (by omega)
  by_cases h0 : 0 < s.size
  · have he := empty_false h0
    go_enter Tryz.func114, Tryz.ntmps114
    go_wp2_with (go_at_call 133; refine (HT.out _).mono ?_; rintro e w' ⟨rfl, rfl⟩)
    go_ret
    exact ⟨rfl, rfl⟩
  · have he := empty_true (s := s) (by omega)
    have HE := Lib.hid (TrI.empty (s := s) (t := s) ⟨Nat.le_refl _, rfl⟩ (by omega))
    go_enter Tryz.func114, Tryz.ntmps114
    go_wp2
    go_ret
    exact ⟨ret_string HE.out, rfl⟩
theorem trim_any (s : ByteArray) (w : World) (hs : s.size ≤ 140737488351232) :
    Calls Tryz.prog 114 #[.string s, .string ⟨#[0]⟩] w fun e w' => e = .returned (.string (ofL (trimZ (bs s)))) ∧ w = w' :=
  trim_core s ⟨#[0]⟩ w hs rfl rfl

set_option maxRecDepth 100000 in
theorem clearS_keep (a b : Addr) (u : FrameMode) (w : World) (h : w.cell? a = some (.bool true)) :
    CallsD Tryz.prog 113 #[.pointer (some a), .pointer (some b)] u w fun e u' w' => u' = u ∧ (e = .returned (.tuple #[]) ∧ w' = w) := by
  go_enter_d Tryz.func113, Tryz.ntmps113
  go_wp2
  go_end0
  exact ⟨rfl, rfl⟩
set_option maxRecDepth 100000 in
theorem clearS_clear (a b : Addr) (v : Value) (u : FrameMode) (w : World) (h : w.cell? a = some (.bool false)) (hb : w.cell? b = some v) (hf : w.frozen? b = false) :
    CallsD Tryz.prog 113 #[.pointer (some a), .pointer (some b)] u w fun e u' w' => u' = u ∧ (e = .returned (.tuple #[]) ∧ w' = w.setCell b (.string ⟨#[]⟩)) := by
  go_enter_d Tryz.func113, Tryz.ntmps113
  go_wp2
  go_end0
  exact ⟨rfl, rfl⟩

set_option maxRecDepth 100000 in
set_option maxHeartbeats 1000000 in
theorem unpack_any (n : Nat) (w : World) :
    Calls Tryz.prog 94 #[.int .u64 (n : Int)] w fun e w' => e = .returned (.tuple #[.string (unT n), .bool (packT (unS n))]) ∧ Below w.heap.size w w' := by
  have hs8 := size_unS n
  have HT0 : ∀ w5, Calls Tryz.prog 114 #[.string (ofL (putL n 8)), .string ⟨#[0]⟩] w5 fun e w' => e = .returned (.string (unS n)) ∧ w5 = w' := fun w5 => by
    have := trim_any (ofL (putL n 8)) w5 (by rw [size_ofL, length_putL]; decide)
    rw [bs_ofL] at this
    exact this
  have HN : Hid (unT n = if packT (unS n) then unS n else ofL []) := Lib.hid rfl
  generalize unT n = r at *
  obtain ⟨t, ht⟩ : ∃ t, unS n = t := ⟨_, rfl⟩
  rw [ht] at HT0 hs8 HN ⊢
  clear ht
  have HT := Lib.hid HT0
  have HTM := Lib.hid (show t.size ≤ maxLen by unfold maxLen; omega)
  clear HT0
  rcases hP : packT t with _ | _
  all_goals
    have HP := Lib.hid hP
    rw [hP] at HN
    clear hP
    go_enter_defers Tryz.func94, Tryz.ntmps94
    go_wp2_with fail
    refine (put8 n _).mono ?_
    rintro e w1 ⟨rfl, hb1⟩
    have r1 : w1.cell? ⟨w.heap.size, 0, none⟩ = some (.string ⟨#[]⟩) := (hb1.cell (p := ⟨w.heap.size, 0, none⟩) (by simp; omega)).trans (by simp)
    have r2 : w1.cell? ⟨w.heap.size + 1, 0, none⟩ = some (.bool false) := (hb1.cell (p := ⟨w.heap.size + 1, 0, none⟩) (by simp)).trans (by simp)
    have r3 : w1.frozen? ⟨w.heap.size, 0, none⟩ = false := (hb1.frozen (p := ⟨w.heap.size, 0, none⟩) (by simp; omega)).trans (by simp)
    have r4 : w1.frozen? ⟨w.heap.size + 1, 0, none⟩ = false := (hb1.frozen (p := ⟨w.heap.size + 1, 0, none⟩) (by simp)).trans (by simp)
    have r5 : Below w.heap.size w w1 := (((Below.refl _ w).alloc (Nat.le_refl _) _).alloc (by simp) _).trans (hb1.mono (by simp; omega))
    clear hb1
    have hq : ∀ w5, Calls Tryz.prog 101 #[.string t] w5 fun e w'' => e = .returned (.bool (packT t)) ∧ w'' = w5 := fun w5 => (packed_any t w5 HTM.out).mono fun _ _ ⟨p, q⟩ => ⟨p, q.symm⟩
    rw [HP.out] at hq
    go_wp2_with (go_at_call 114; refine (HT.out _).mono ?_; rintro e w' ⟨rfl, rfl⟩)
    have hB0 := r5.setCell (p := ⟨w.heap.size, 0, none⟩) (Nat.le_refl _) (.string t)
    have q1 : (w1.setCell ⟨w.heap.size, 0, none⟩ (.string t)).cell? ⟨w.heap.size, 0, none⟩ = some (.string t) := World.cell?_setCell_same _ _ _ r1
    have q2 : (w1.setCell ⟨w.heap.size, 0, none⟩ (.string t)).cell? ⟨w.heap.size + 1, 0, none⟩ = some (.bool false) := (World.cell?_setCell_other _ _ _ _ (by simp)).trans r2
    have q3 : (w1.setCell ⟨w.heap.size, 0, none⟩ (.string t)).frozen? ⟨w.heap.size, 0, none⟩ = false := by rw [World.frozen?_setCell]; exact r3
    have q4 : (w1.setCell ⟨w.heap.size, 0, none⟩ (.string t)).frozen? ⟨w.heap.size + 1, 0, none⟩ = false := by rw [World.frozen?_setCell]; exact r4
    clear r1 r2 r3 r4 r5
    generalize w1.setCell ⟨w.heap.size, 0, none⟩ (.string t) = wr at *
    refine wp_region_still_tail 3 (by kernel_rfl) (by kernel_rfl) ?_
    simp only [List.take_succ_cons, List.take_zero, List.drop_succ_cons, List.drop_zero]
    still_step
    still_step
    still_call (hq _)
    refine wpStill_nil ?_
    have r1 : wr.drew.cell? ⟨w.heap.size, 0, none⟩ = some (.string t) := q1
    have r2 : wr.drew.cell? ⟨w.heap.size + 1, 0, none⟩ = some (.bool false) := q2
    have r3 : wr.drew.frozen? ⟨w.heap.size, 0, none⟩ = false := q3
    have r4 : wr.drew.frozen? ⟨w.heap.size + 1, 0, none⟩ = false := q4
    have r5 : Below w.heap.size w wr.drew := hB0.drew
    clear q1 q2 q3 q4 hB0
    change wpList _ _ _ _ _ wr.drew
    generalize wr.drew = w2 at *
    go_wp2
    refine leaves_cons (f := 113) (args := #[.pointer (some ⟨w.heap.size + 1, 0, none⟩), .pointer (some ⟨w.heap.size, 0, none⟩)]) (by simp) (by simp [go_sem]) ?_
    have hB := (r5.setCell (p := ⟨w.heap.size, 0, none⟩) (Nat.le_refl _) (.string t))
    have c1 : (w2.setCell ⟨w.heap.size, 0, none⟩ (.string t)).cell? ⟨w.heap.size, 0, none⟩ = some (.string t) := World.cell?_setCell_same _ _ _ r1
    have c2 : (w2.setCell ⟨w.heap.size, 0, none⟩ (.string t)).cell? ⟨w.heap.size + 1, 0, none⟩ = some (.bool false) := (World.cell?_setCell_other _ _ _ _ (by simp)).trans r2
    have f1 : (w2.setCell ⟨w.heap.size, 0, none⟩ (.string t)).frozen? ⟨w.heap.size, 0, none⟩ = false := by rw [World.frozen?_setCell]; exact r3
    generalize w2.setCell ⟨w.heap.size, 0, none⟩ (.string t) = w3 at *
    have hB' := hB.setCell (p := ⟨w.heap.size + 1, 0, none⟩) (by simp) (.bool (packT t))
    have c3 : (w3.setCell ⟨w.heap.size + 1, 0, none⟩ (.bool (packT t))).cell? ⟨w.heap.size, 0, none⟩ = some (.string t) := (World.cell?_setCell_other _ _ _ _ (by simp)).trans c1
    have c4 : (w3.setCell ⟨w.heap.size + 1, 0, none⟩ (.bool (packT t))).cell? ⟨w.heap.size + 1, 0, none⟩ = some (.bool (packT t)) := World.cell?_setCell_same _ _ _ c2
    have f3 : (w3.setCell ⟨w.heap.size + 1, 0, none⟩ (.bool (packT t))).frozen? ⟨w.heap.size, 0, none⟩ = false := by rw [World.frozen?_setCell]; exact f1
    rw [HP.out] at hB' c3 c4 f3
    have hn := HN.out
    clear c1 c2 f1 r1 r2 r3 r4 r5 hq
    first
    | refine (clearS_clear _ _ _ _ _ c4 c3 f3).mono ?_
      rintro e u' w'' ⟨rfl, rfl, rfl⟩
      rw [if_neg (by simp)] at hn
      have c5 := World.cell?_setCell_same _ _ (.string ⟨#[]⟩) c3
      have c6 := (World.cell?_setCell_other _ ⟨w.heap.size, 0, none⟩ ⟨w.heap.size + 1, 0, none⟩ (.string ⟨#[]⟩) (by simp)).trans c4
      have hB6 := hB'.setCell (p := ⟨w.heap.size, 0, none⟩) (Nat.le_refl _) (.string ⟨#[]⟩)
      simp [Leaves, settle, results, Tryz.results94, go_sem, c5, c6, hB6, hn, ofL]
    | refine (clearS_keep _ _ _ _ c4).mono ?_
      rintro e u' w'' ⟨rfl, rfl, rfl⟩
      simp only [if_true] at hn
      simp [Leaves, settle, results, Tryz.results94, go_sem, c3, c4, hB', hn]
end Go.Proofs.YtbafmnafhaoggaaGreatDoor

/-! The document's own May, Pack. -/
namespace Go.Proofs.YtbafmnafhaoggaaGreatDoor
open Go Go.RowKit

end Go.Proofs.YtbafmnafhaoggaaGreatDoor

/-! The document's own Unpack. -/
namespace Go.Proofs.YtbafmnafhaoggaaGreatDoor
open Go Go.RowKit

/- The bytes up to the first 0. -/
def preL (l : List UInt8) : List UInt8 := l.takeWhile (· != 0)
theorem preL_zeros (l : List UInt8) (k : Nat) (h : ∀ c ∈ l, c ≠ 0) : preL (l ++ List.replicate k 0) = l := by
  unfold preL
  induction l with
  | nil => cases k <;> simp [List.replicate_succ]
  | cons c r ih =>
    have hc : (c != 0) = true := by simpa using h c (by simp)
    rw [List.cons_append, List.takeWhile_cons, if_pos hc, ih fun x hx => h x (by simp [hx])]
def preS (n : Nat) : ByteArray := ofL (preL (putL n 8))
/-- What the rounds keep. -/
structure UnI (n : Nat) (w : World) (i1 : Nat) (t : ByteArray) (wr : World) : Prop where
  le : i1 ≤ 8
  tx : bs t = (putL n 8).take (8 - i1)
  nz : ∀ c ∈ bs t, c ≠ 0
  r1 : wr.cell? ⟨w.heap.size, 0, none⟩ = some (.string ⟨#[]⟩)
  r2 : wr.cell? ⟨w.heap.size, 1, none⟩ = some (.bool false)
  r3 : wr.frozen? ⟨w.heap.size, 0, none⟩ = false
  r4 : wr.frozen? ⟨w.heap.size, 1, none⟩ = false
  sz : w.heap.size < wr.heap.size
  bel : Below w.heap.size w wr
theorem putL_get (n k j : Nat) (h : j < k) : (putL n k)[j]? = some (byteAt n (k - 1 - j)) := by
  induction k generalizing j with
  | zero => omega
  | succ k ih =>
    cases j with
    | zero => simp [putL]
    | succ j => rw [putL, List.getElem?_cons_succ, ih j (by omega)]; congr 2; omega
theorem takeWhile_stop (l r : List UInt8) (h : ∀ c ∈ l, c ≠ 0) : preL (l ++ 0 :: r) = l := by
  unfold preL
  induction l with
  | nil => simp
  | cons c q ih =>
    have hc : (c != 0) = true := by simpa using h c (by simp)
    rw [List.cons_append, List.takeWhile_cons, if_pos hc, ih fun x hx => h x (by simp [hx])]
theorem UnI.fin {n : Nat} {w wr : World} {t : ByteArray} (h : UnI n w 0 t wr) : t = preS n := by
  have h1 := h.tx
  rw [Nat.sub_zero, List.take_of_length_le (by rw [length_putL]; omega)] at h1
  unfold preS
  have h2 := preL_zeros (bs t) 0 h.nz
  rw [List.replicate_zero, List.append_nil, h1] at h2
  rw [h2, ← h1]
  exact (ofL_bs t).symm
theorem UnI.stop {n i : Nat} {w wr : World} {t : ByteArray} (h : UnI n w (i + 1) t wr) (hz : byteAt n i = 0) : t = preS n := by
  have hi := h.le
  have hg := putL_get n 8 (8 - (i + 1)) (by omega)
  rw [show 8 - 1 - (8 - (i + 1)) = i by omega, hz] at hg
  obtain ⟨hlt, hg'⟩ := List.getElem?_eq_some_iff.1 hg
  have e : putL n 8 = bs t ++ 0 :: (putL n 8).drop (8 - (i + 1) + 1) := by
    conv => lhs; rw [← List.take_append_drop (8 - (i + 1)) (putL n 8)]
    rw [h.tx, List.drop_eq_getElem_cons hlt, hg']
  unfold preS
  rw [e, takeWhile_stop _ _ h.nz]
  exact (ofL_bs t).symm
theorem UnI.step {n i : Nat} {w wr wx : World} {t : ByteArray} (h : UnI n w (i + 1) t wr) (hz : byteAt n i ≠ 0) (hb : Below wr.heap.size wr wx) : UnI n w i (t ++ ofL [byteAt n i]) wx := by
  obtain ⟨h1, h2, h3, h4, h5, h6, h7, h8, h9⟩ := h
  have hg := putL_get n 8 (8 - (i + 1)) (by omega)
  rw [show 8 - 1 - (8 - (i + 1)) = i by omega] at hg
  have e : bs (t ++ ofL [byteAt n i]) = bs t ++ [byteAt n i] := by
    conv => lhs; rw [← ofL_bs t, ofL_append, bs_ofL]
  refine ⟨by omega, ?_, ?_, (hb.cell (p := ⟨w.heap.size, 0, none⟩) h8).trans h4, (hb.cell (p := ⟨w.heap.size, 1, none⟩) h8).trans h5, (hb.frozen (p := ⟨w.heap.size, 0, none⟩) h8).trans h6, (hb.frozen (p := ⟨w.heap.size, 1, none⟩) h8).trans h7, Nat.lt_of_lt_of_le h8 hb.size, h9.trans (hb.mono (Nat.le_of_lt h8))⟩
  · rw [e, h2, show 8 - i = 8 - (i + 1) + 1 by omega, List.take_add_one, hg]; rfl
  · rw [e]
    intro c hc
    rcases List.mem_append.1 hc with hc | hc
    · exact h3 c hc
    · rw [List.mem_singleton.1 hc]; exact hz
end Go.Proofs.YtbafmnafhaoggaaGreatDoor
