/-
  Package pack: mayBe, packed, clearUnless, Pack.
-/
import Derived.Test.YtlpjdknmnomdlaaGreatDoorCMath
import Derived.Test.YtlpjdknmnomdlaaGreatDoorBase
import Derived.Lib.EndianBits
import Derived.Defers
import Derived.Recover
import Derived.StillTailTactics
namespace Go.Proofs.YtlpjdknmnomdlaaGreatDoor
open Go Go.RowKit

/-- The kinds of bytes that mayBe asks for. -/
inductive Pd (c : UInt8) : Prop
  | low (h1 : 97 ≤ c.toNat) (h2 : c.toNat ≤ 122)
  | dig (h1 : 48 ≤ c.toNat) (h2 : c.toNat ≤ 57)
  | star (h : c.toNat = 42)
  | bang (h : c.toNat = 33)
  | dollar (h : c.toNat = 36)
  | n1 (h : c.toNat < 33)
  | n2 (h1 : 33 < c.toNat) (h2 : c.toNat < 36)
  | n3 (h1 : 36 < c.toNat) (h2 : c.toNat < 42)
  | n4 (h1 : 42 < c.toNat) (h2 : c.toNat < 48)
  | n5 (h1 : 57 < c.toNat) (h2 : c.toNat < 97)
  | n6 (h1 : 122 < c.toNat)
theorem pd (c : UInt8) : Pd c := by
  by_cases h1 : c.toNat < 33
  · exact .n1 h1
  by_cases h2 : c.toNat = 33
  · exact .bang h2
  by_cases h3 : c.toNat < 36
  · exact .n2 (by omega) h3
  by_cases h4 : c.toNat = 36
  · exact .dollar h4
  by_cases h5 : c.toNat < 42
  · exact .n3 (by omega) h5
  by_cases h6 : c.toNat = 42
  · exact .star h6
  by_cases h7 : c.toNat < 48
  · exact .n4 (by omega) h7
  by_cases h8 : c.toNat ≤ 57
  · exact .dig (by omega) h8
  by_cases h9 : c.toNat < 97
  · exact .n5 (by omega) h9
  by_cases h10 : c.toNat ≤ 122
  · exact .low (by omega) h10
  · exact .n6 (by omega)
theorem isP_val (c : UInt8) : isP c = (decide (97 ≤ c.toNat ∧ c.toNat ≤ 122) || decide (48 ≤ c.toNat ∧ c.toNat ≤ 57) || decide (c.toNat = 42) || decide (c.toNat = 33) || decide (c.toNat = 36)) := by
  revert c
  exact byte_all _ (by decide +kernel)

set_option maxRecDepth 100000 in
theorem mayBe_any (c : UInt8) (w : World) :
    Calls Tryz.prog 188 #[.int .u8 c.toNat] w fun e w' => e = .returned (.bool (isP c)) ∧ w = w' := by
  have HV := Lib.hid (isP_val c)
  rcases pd c with ⟨h1, h2⟩ | ⟨h1, h2⟩ | h | h | h | h | ⟨h1, h2⟩ | ⟨h1, h2⟩ | ⟨h1, h2⟩ | ⟨h1, h2⟩ | h1
  all_goals
    go_enter Tryz.func188, Tryz.ntmps188
    go_wp2
    go_ret
    refine ⟨ret_bool ?_, rfl⟩
    rw [HV.out]
    simp
    omega

theorem packT_at {s : ByteArray} {k : Nat} (h : k < s.size) (hp : isP s[k] = false) : packT s = false := by
  cases hh : packT s with
  | false => rfl
  | true =>
    have := ((packT_iff s).1 hh).2 s[k] (by rw [show s[k] = (bs s)[k]'(by rw [size_bs]; exact h) from rfl]; exact List.getElem_mem _)
    rw [hp] at this; cases this
set_option maxRecDepth 100000 in
theorem packed_any (s : ByteArray) (w : World) (hs : s.size ≤ maxLen) :
    Calls Tryz.prog 169 #[.string s] w fun e w' => e = .returned (.bool (packT s)) ∧ w = w' := by
  unfold maxLen at hs
  by_cases h8 : 8 < s.size
  · have HE := Lib.hid (show packT s = false by unfold packT; rw [decide_eq_false (by omega)]; rfl)
    have h' : (8 : Int) < (s.size : Int) := by omega
    go_enter Tryz.func169, Tryz.ntmps169
    go_wp2
    go_ret
    exact ⟨ret_bool HE.out.symm, rfl⟩
  · have h' : ¬ (8 : Int) < (s.size : Int) := by omega
    go_enter Tryz.func169, Tryz.ntmps169
    go_wp2
    go_loop [9] (fun i => ∃ k : Nat, k ≤ s.size ∧ i = .int .i64 k ∧ ((bs s).take k).all isP = true) (fun i => s.size - (intOf i).toNat)
    case atStart => exact ⟨0, Nat.zero_le _, rfl, by simp⟩
    case round =>
      obtain ⟨k, hk, rfl, HR⟩ := hrel
      by_cases hlt : k < s.size
      · rcases hP : isP s[k] with _ | _
        · have HP := Lib.hid hP
          have HF := Lib.hid (packT_at hlt hP)
          clear hP HR
          go_wp2_with (go_at_call 188; refine (mayBe_any _ _).mono ?_; rintro e w' ⟨rfl, rfl⟩; rw [HP.out])
          go_ret
          exact ⟨ret_bool HF.out.symm, rfl⟩
        · have HP := Lib.hid hP
          have HS := Lib.hid (show ((bs s).take (k + 1)).all isP = true by rw [all_take_succ _ _ _ hlt, HR, hP]; rfl)
          clear hP HR
          go_wp2_with (go_at_call 188; refine (mayBe_any _ _).mono ?_; rintro e w' ⟨rfl, rfl⟩; rw [HP.out])
          go_round
          case rel => exact ⟨k + 1, by omega, by go_num, HS.out⟩
          case measure => simp [intOf]; omega
      · obtain rfl : k = s.size := by omega
        have HF := Lib.hid (show packT s = true by
          unfold packT
          rw [List.take_of_length_le (by rw [size_bs]; exact Nat.le_refl _)] at HR
          rw [HR, decide_eq_true (by omega)]; rfl)
        clear HR
        go_wp2
        go_ret
        exact ⟨ret_bool HF.out.symm, rfl⟩

set_option maxRecDepth 100000 in
/-- clearUnless, deferred: what is told may be. -/
theorem clearU_keep (a b : Addr) (u : FrameMode) (w : World) (h : w.cell? a = some (.bool true)) :
    CallsD Tryz.prog 168 #[.pointer (some a), .pointer (some b)] u w fun e u' w' => u' = u ∧ (e = .returned (.tuple #[]) ∧ w' = w) := by
  go_enter_d Tryz.func168, Tryz.ntmps168
  go_wp2
  go_end0
  exact ⟨rfl, rfl⟩
set_option maxRecDepth 100000 in
theorem clearU_clear (a b : Addr) (v : Value) (u : FrameMode) (w : World) (h : w.cell? a = some (.bool false)) (hb : w.cell? b = some v) (hf : w.frozen? b = false) :
    CallsD Tryz.prog 168 #[.pointer (some a), .pointer (some b)] u w fun e u' w' => u' = u ∧ (e = .returned (.tuple #[]) ∧ w' = w.setCell b (.int .u64 0)) := by
  go_enter_d Tryz.func168, Tryz.ntmps168
  go_wp2
  go_end0
  exact ⟨rfl, rfl⟩

/-- What Pack's rounds keep: the number so far, and that nothing is told yet. -/
structure PkI (t : ByteArray) (w : World) (k : Nat) (wr : World) : Prop where
  n : wr.cell? ⟨w.heap.size, 0, none⟩ = some (.int .u64 ((num k (bs t) : Nat) : Int))
  ok : wr.cell? ⟨w.heap.size + 1, 0, none⟩ = some (.bool false)
  fn : wr.frozen? ⟨w.heap.size, 0, none⟩ = false
  fo : wr.frozen? ⟨w.heap.size + 1, 0, none⟩ = false
  bel : Below w.heap.size w wr

theorem PkI.turn {t : ByteArray} {w wr : World} {k j : Nat} (h : PkI t w k wr) (v : Int) (hv : v = ((num j (bs t) : Nat) : Int)) : PkI t w j (wr.setCell ⟨w.heap.size, 0, none⟩ (.int .u64 v)) := by
  obtain ⟨r1, r2, r3, r4, r5⟩ := h
  exact ⟨by rw [hv]; exact World.cell?_setCell_same _ _ _ r1, (World.cell?_setCell_other _ _ _ _ (by simp)).trans r2, by rw [World.frozen?_setCell]; exact r3, by rw [World.frozen?_setCell]; exact r4, r5.setCell (p := ⟨w.heap.size, 0, none⟩) (Nat.le_refl _) _⟩
theorem PkI.turn2 {t : ByteArray} {w wr : World} {k j : Nat} (h : PkI t w k wr) (v1 v : Int) (hv : v = ((num j (bs t) : Nat) : Int)) : PkI t w j ((wr.setCell ⟨w.heap.size, 0, none⟩ (.int .u64 v1)).setCell ⟨w.heap.size, 0, none⟩ (.int .u64 v)) := by
  obtain ⟨r1, r2, r3, r4, r5⟩ := h
  exact ⟨by rw [hv]; exact World.cell?_setCell_same _ _ _ (World.cell?_setCell_same _ _ _ r1), (World.cell?_setCell_other _ _ _ _ (by simp)).trans ((World.cell?_setCell_other _ _ _ _ (by simp)).trans r2), by rw [World.frozen?_setCell, World.frozen?_setCell]; exact r3, by rw [World.frozen?_setCell, World.frozen?_setCell]; exact r4, (r5.setCell (p := ⟨w.heap.size, 0, none⟩) (Nat.le_refl _) _).setCell (p := ⟨w.heap.size, 0, none⟩) (Nat.le_refl _) _⟩
theorem PkI.drew {t : ByteArray} {w wr : World} {k : Nat} (h : PkI t w k wr) : PkI t w k wr.drew := by
  obtain ⟨r1, r2, r3, r4, r5⟩ := h
  exact ⟨r1, r2, r3, r4, r5.drew⟩
theorem shl8 (x : Nat) (h : x < 72057594037927936) : IntKind.u64.wrap ((x : Int) * 256) = (x : Int) * 256 := u64_wrap_id _ (by omega) (by omega)
theorem or8 (x : Nat) (c : UInt8) (h : x < 72057594037927936) : bits .or .u64 ((x : Int) * 256) (c.toNat : Int) = (x : Int) * 256 + (c.toNat : Int) := by
  have := c.toNat_lt
  exact bits_join .u64 64 (by decide) (fun n h0 h1 => u64_wrap_id n h0 h1) 8 _ _ (by omega) (by omega) (by omega) (by omega) (by omega) (by omega)
theorem num_room (k : Nat) (l : List UInt8) (h : k < 8) : num k l < 72057594037927936 := by
  have := num_lt k l
  have h2 : (256 : Nat) ^ k ≤ 256 ^ 7 := Nat.pow_le_pow_right (by decide) (by omega)
  omega
theorem num_at (k : Nat) (t : ByteArray) (h : k < t.size) : num (k + 1) (bs t) = num k (bs t) * 256 + t[k].toNat := by
  have hk : k < (bs t).length := by rw [size_bs]; exact h
  rw [num_succ, List.getElem?_eq_getElem hk]
  rfl
theorem num_past (k : Nat) (t : ByteArray) (h : ¬ k < t.size) : num (k + 1) (bs t) = num k (bs t) * 256 := by
  have hk : (bs t).length ≤ k := by rw [size_bs]; omega
  rw [num_succ, List.getElem?_eq_none hk]
  simp

set_option maxRecDepth 100000 in
set_option maxHeartbeats 1000000 in
theorem pack_any (s : ByteArray) (w : World) (hs : s.size ≤ 140737488351232) :
    Calls Tryz.prog 146 #[.string s] w fun e w' => e = .returned (.tuple #[.int .u64 ((packN s : Nat) : Int), .bool (packT (lowS s))]) ∧ Below w.heap.size w w' := by
  obtain ⟨t, ht⟩ : ∃ t, lowS s = t := ⟨_, rfl⟩
  have HN : Hid (packN s = if packT t then num 8 (bs t) else 0) := by unfold packN; rw [ht]; exact Lib.hid rfl
  have hts : t.size ≤ 140737488351232 := by rw [← ht, size_lowS]; exact hs
  have HTM := Lib.hid (show t.size ≤ maxLen by unfold maxLen; omega)
  have HL := Lib.hid (fun w5 => (lower_text s w5 hs).mono (R' := fun e w6 => e = .returned (.string t) ∧ Below w5.heap.size w5 w6) fun e w6 ⟨p, q⟩ => ⟨by rw [p, ht], q⟩)
  rw [ht]
  clear ht
  rcases hP : packT t with _ | _
  all_goals
    have HP := Lib.hid hP
    rw [hP] at HN
    clear hP
    go_enter_defers Tryz.func146, Tryz.ntmps146
    go_wp2_with fail
    refine (HL.out _).mono ?_
    rintro e w1 ⟨rfl, hb1⟩
    have HI : PkI t w 0 w1 := by
      refine ⟨(hb1.cell (p := ⟨w.heap.size, 0, none⟩) (by simp; omega)).trans (by simp [num]), (hb1.cell (p := ⟨w.heap.size + 1, 0, none⟩) (by simp)).trans (by simp), (hb1.frozen (p := ⟨w.heap.size, 0, none⟩) (by simp; omega)).trans (by simp), (hb1.frozen (p := ⟨w.heap.size + 1, 0, none⟩) (by simp)).trans (by simp), ?_⟩
      exact (((Below.refl _ w).alloc (Nat.le_refl _) _).alloc (by simp) _).trans (hb1.mono (by simp; omega))
    clear hb1
    go_wp2
    go_loopw [8] (fun i wr => ∃ k : Nat, k ≤ 8 ∧ i = .int .i64 k ∧ PkI t w k wr) (fun i _ => 8 - (intOf i).toNat)
    case atStart => exact ⟨0, Nat.zero_le _, rfl, HI⟩
    case round =>
      obtain ⟨k, hk, rfl, HR⟩ := hrel
      by_cases hlt : k < 8
      · have HA := Lib.hid (num_at k t)
        have HB := Lib.hid (num_past k t)
        have hxl := num_room k (bs t) hlt
        have r1 := HR.n
        obtain ⟨x, hx⟩ : ∃ x, num k (bs t) = x := ⟨_, rfl⟩
        rw [hx] at r1 hxl HA HB
        have r3 := HR.fn
        have hsh := shl8 x hxl
        have HR' := Lib.hid HR
        clear HR hx
        by_cases hkt : k < t.size
        · have hor := or8 x t[k] hxl
          have hwc : IntKind.u64.wrap (t[k].toNat : Int) = (t[k].toNat : Int) := by
            have := t[k].toNat_lt
            exact u64_wrap_id _ (by omega) (by omega)
          go_wp2
          go_region
          go_wp2
          go_roundw
          case rel => exact ⟨k + 1, by omega, by go_num, (HR'.out.turn2 _ _ (by rw [HA.out hkt]; simp)).drew⟩
          case measure => simp [intOf]; omega
        · go_wp2
          go_roundw
          case rel => exact ⟨k + 1, by omega, by go_num, HR'.out.turn _ (by rw [HB.out hkt]; simp)⟩
          case measure => simp [intOf]; omega
      · obtain rfl : k = 8 := by omega
        have HR' := Lib.hid HR
        obtain ⟨r1, r2, r3, r4, r5⟩ := HR
        have hq : ∀ w5, Calls Tryz.prog 169 #[.string t] w5 fun e w'' => e = .returned (.bool (packT t)) ∧ w'' = w5 := fun w5 => (packed_any t w5 HTM.out).mono fun _ _ ⟨p, q⟩ => ⟨p, q.symm⟩
        rw [HP.out] at hq
        go_wp2
        refine wp_region_still_tail 3 (by kernel_rfl) (by kernel_rfl) ?_
        simp only [List.take_succ_cons, List.take_zero, List.drop_succ_cons, List.drop_zero]
        still_step
        still_step
        still_call (hq _)
        refine wpStill_nil ?_
        obtain ⟨r1, r2, r3, r4, r5⟩ := HR'.out.drew
        change wpList _ _ _ _ _ wr.drew
        generalize wr.drew = w2 at *
        go_wp2
        refine leaves_cons (f := 168) (args := #[.pointer (some ⟨w.heap.size + 1, 0, none⟩), .pointer (some ⟨w.heap.size, 0, none⟩)]) (by simp) (by simp [go_sem]) ?_
        have hB := (r5.setCell (p := ⟨w.heap.size, 0, none⟩) (Nat.le_refl _) (.int .u64 ((num 8 (bs t) : Nat) : Int)))
        have c1 : (w2.setCell ⟨w.heap.size, 0, none⟩ (.int .u64 ((num 8 (bs t) : Nat) : Int))).cell? ⟨w.heap.size, 0, none⟩ = some (.int .u64 ((num 8 (bs t) : Nat) : Int)) := World.cell?_setCell_same _ _ _ r1
        have c2 : (w2.setCell ⟨w.heap.size, 0, none⟩ (.int .u64 ((num 8 (bs t) : Nat) : Int))).cell? ⟨w.heap.size + 1, 0, none⟩ = some (.bool false) := (World.cell?_setCell_other _ _ _ _ (by simp)).trans r2
        have f1 : (w2.setCell ⟨w.heap.size, 0, none⟩ (.int .u64 ((num 8 (bs t) : Nat) : Int))).frozen? ⟨w.heap.size, 0, none⟩ = false := by rw [World.frozen?_setCell]; exact r3
        generalize w2.setCell ⟨w.heap.size, 0, none⟩ (.int .u64 ((num 8 (bs t) : Nat) : Int)) = w3 at *
        have hB' := hB.setCell (p := ⟨w.heap.size + 1, 0, none⟩) (by simp) (.bool (packT t))
        have c3 : (w3.setCell ⟨w.heap.size + 1, 0, none⟩ (.bool (packT t))).cell? ⟨w.heap.size, 0, none⟩ = some (.int .u64 ((num 8 (bs t) : Nat) : Int)) := (World.cell?_setCell_other _ _ _ _ (by simp)).trans c1
        have c4 : (w3.setCell ⟨w.heap.size + 1, 0, none⟩ (.bool (packT t))).cell? ⟨w.heap.size + 1, 0, none⟩ = some (.bool (packT t)) := World.cell?_setCell_same _ _ _ c2
        have f3 : (w3.setCell ⟨w.heap.size + 1, 0, none⟩ (.bool (packT t))).frozen? ⟨w.heap.size, 0, none⟩ = false := by rw [World.frozen?_setCell]; exact f1
        rw [HP.out] at hB' c3 c4 f3
        have hn := HN.out
        clear c1 c2 f1 r1 r2 r3 r4 r5 HR' hq
        first
        | refine (clearU_clear _ _ _ _ _ c4 c3 f3).mono ?_
          rintro e u' w'' ⟨rfl, rfl, rfl⟩
          rw [if_neg (by simp)] at hn
          have c5 := World.cell?_setCell_same _ _ (.int .u64 0) c3
          have c6 := (World.cell?_setCell_other _ ⟨w.heap.size, 0, none⟩ ⟨w.heap.size + 1, 0, none⟩ (.int .u64 0) (by simp)).trans c4
          have hB6 := hB'.setCell (p := ⟨w.heap.size, 0, none⟩) (Nat.le_refl _) (.int .u64 0)
          simp [Leaves, settle, results, Tryz.results146, go_sem, c5, c6, hB6, hn]
        | refine (clearU_keep _ _ _ _ c4).mono ?_
          rintro e u' w'' ⟨rfl, rfl, rfl⟩
          simp only [if_true] at hn
          simp [Leaves, settle, results, Tryz.results146, go_sem, c3, c4, hB', hn]
end Go.Proofs.YtlpjdknmnomdlaaGreatDoor
