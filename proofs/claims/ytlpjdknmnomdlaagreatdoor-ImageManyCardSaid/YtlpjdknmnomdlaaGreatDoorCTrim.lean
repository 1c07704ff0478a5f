/-
  strings.TrimRight of the byte 0; package pack: clearUnless, Unpack.
-/
import Derived.Test.YtlpjdknmnomdlaaGreatDoorCPut
namespace Go.Proofs.YtlpjdknmnomdlaaGreatDoor
open Go Go.RowKit

def sizeOf' : Value → Nat
  | .string t => t.size
  | _ => 0
/-- What the rounds keep: a text that trims to the same. -/
def TrI (s t : ByteArray) : Prop := t.size ≤ s.size ∧ trimZ (bs t) = trimZ (bs s)
theorem bs_last {t : ByteArray} {m : Nat} (h : t.size = m + 1) : bs t = bs (t.extract 0 m) ++ [t[m]'(by omega)] := by
  have hl : m < (bs t).length := by rw [size_bs]; omega
  rw [bs_extract, List.drop_zero, Nat.sub_zero]
  have e : (bs t).take (m + 1) = (bs t).take m ++ [t[m]'(by omega)] := bs_take_succ t m (by omega)
  rw [List.take_of_length_le (by rw [size_bs]; omega)] at e
  exact e
theorem TrI.step {s t : ByteArray} {m : Nat} (h : TrI s t) (hm : t.size = m + 1) (hc : (t[m]'(by omega)).toNat = 0) : TrI s (t.extract 0 m) := by
  refine ⟨by rw [ByteArray.size_extract]; have := h.1; omega, ?_⟩
  rw [← h.2, bs_last hm, show t[m]'(by omega) = 0 from UInt8.toNat_inj.1 (by simpa using hc), trimZ_zero]
theorem TrI.stop {s t : ByteArray} {m : Nat} (h : TrI s t) (hm : t.size = m + 1) (hc : (t[m]'(by omega)).toNat ≠ 0) : t = ofL (trimZ (bs s)) := by
  have e := bs_last hm
  rw [← h.2, e, trimZ_stop _ _ (fun h0 => hc (by rw [h0]; rfl)), ← e]
  exact (ofL_bs t).symm
theorem TrI.empty {s t : ByteArray} (h : TrI s t) (hm : t.size = 0) : t = ofL (trimZ (bs s)) := by
  have e : bs t = [] := List.eq_nil_of_length_eq_zero (by rw [size_bs]; exact hm)
  rw [← h.2, e, trimZ_nil, ← e]
  exact (ofL_bs t).symm

set_option maxRecDepth 100000 in
set_option maxHeartbeats 1000000 in
theorem trimByte_any (s : ByteArray) (w : World) (hs : s.size ≤ 140737488351232) :
    Calls Tryz.prog 195 #[.string s, .int .u8 0] w fun e w' => e = .returned (.string (ofL (trimZ (bs s)))) ∧ w = w' := by
  go_enter Tryz.func195, Tryz.ntmps195
  go_wp2
  go_loop [0] (fun x => ∃ t : ByteArray, x = .string t ∧ TrI s t) (fun x => sizeOf' x)
  case atStart => exact ⟨s, rfl, Nat.le_refl _, rfl⟩
  case round =>
    obtain ⟨t, rfl, HR⟩ := hrel
    have hts := HR.1
    rcases hm : t.size with _ | m
    · have HE := Lib.hid (HR.empty hm)
      clear HR
      go_wp2
      go_ret
      exact ⟨ret_string HE.out, rfl⟩
    · by_cases hc : (t[m]'(by omega)).toNat = 0
      · have HS := Lib.hid (HR.step hm hc)
        clear HR
        go_wp2
        go_round
        case rel => exact ⟨_, rfl, HS.out⟩
        case measure => simp only [sizeOf', ByteArray.size_extract]; omega
      · have HS := Lib.hid (HR.stop hm hc)
        clear HR
        go_wp2
        go_ret
        exact ⟨ret_string HS.out, rfl⟩
set_option maxRecDepth 100000 in
theorem trim_core (s z : ByteArray) (w : World) (hs : s.size ≤ 140737488351232) (hz : z.size = 1) (hz0 : (z[0]'(by omega)).toNat = 0) :
    Calls Tryz.prog 177 #[.string s, .string z] w fun e w' => e = .returned (.string (ofL (trimZ (bs s)))) ∧ w = w' := by
  have HT := Lib.hid (fun w5 => trimByte_any s w5 hs)
  have hze := empty_false (s := z) (by omega)
  by_cases h0 : 0 < s.size
  · have he := empty_false h0
    go_enter Tryz.func177, Tryz.ntmps177
    go_wp2_with (go_at_call 195; refine (HT.out _).mono ?_; rintro e w' ⟨rfl, rfl⟩)
    go_ret
    exact ⟨rfl, rfl⟩
  · have he := empty_true (s := s) (by omega)
    have HE := Lib.hid (TrI.empty (s := s) (t := s) ⟨Nat.le_refl _, rfl⟩ (by omega))
    go_enter Tryz.func177, Tryz.ntmps177
    go_wp2
    go_ret
    exact ⟨ret_string HE.out, rfl⟩
theorem trim_any (s : ByteArray) (w : World) (hs : s.size ≤ 140737488351232) :
    Calls Tryz.prog 177 #[.string s, .string ⟨#[0]⟩] w fun e w' => e = .returned (.string (ofL (trimZ (bs s)))) ∧ w = w' :=
  trim_core s ⟨#[0]⟩ w hs rfl rfl

set_option maxRecDepth 100000 in
theorem clearS_keep (a b : Addr) (u : FrameMode) (w : World) (h : w.cell? a = some (.bool true)) :
    CallsD Tryz.prog 176 #[.pointer (some a), .pointer (some b)] u w fun e u' w' => u' = u ∧ (e = .returned (.tuple #[]) ∧ w' = w) := by
  go_enter_d Tryz.func176, Tryz.ntmps176
  go_wp2
  go_end0
  exact ⟨rfl, rfl⟩
set_option maxRecDepth 100000 in
theorem clearS_clear (a b : Addr) (v : Value) (u : FrameMode) (w : World) (h : w.cell? a = some (.bool false)) (hb : w.cell? b = some v) (hf : w.frozen? b = false) :
    CallsD Tryz.prog 176 #[.pointer (some a), .pointer (some b)] u w fun e u' w' => u' = u ∧ (e = .returned (.tuple #[]) ∧ w' = w.setCell b (.string ⟨#[]⟩)) := by
  go_enter_d Tryz.func176, Tryz.ntmps176
  go_wp2
  go_end0
  exact ⟨rfl, rfl⟩

set_option maxRecDepth 100000 in
set_option maxHeartbeats 1000000 in
theorem unpack_any (n : Nat) (w : World) :
    Calls Tryz.prog 156 #[.int .u64 (n : Int)] w fun e w' => e = .returned (.tuple #[.string (unT n), .bool (packT (unS n))]) ∧ Below w.heap.size w w' := by
  have hs8 := size_unS n
  have HT0 : ∀ w5, Calls Tryz.prog 177 #[.string (ofL (putL n 8)), .string ⟨#[0]⟩] w5 fun e w' => e = .returned (.string (unS n)) ∧ w5 = w' := fun w5 => by
    have := trim_any (ofL (putL n 8)) w5 (by rw [size_ofL, length_putL]; decide)
    rw [bs_ofL] at this
    exact this
  have HN : Hid (unT n = if packT (unS n) then unS n else ofL []) := Lib.hid rfl
  generalize unT n = r at *
  obtain ⟨t, ht⟩ : ∃ t, unS n = t := ⟨_, rfl⟩
  rw [ht] at HT0 hs8 HN ⊢
  clear ht
  have HT := Lib.hid HT0
  have HTM := Lib.hid (show t.size ≤ maxLen by unfold maxLen; omega)
  clear HT0
  rcases hP : packT t with _ | _
  all_goals
    have HP := Lib.hid hP
    rw [hP] at HN
    clear hP
    go_enter_defers Tryz.func156, Tryz.ntmps156
    go_wp2_with fail
    refine (put8 n _).mono ?_
    rintro e w1 ⟨rfl, hb1⟩
    have r1 : w1.cell? ⟨w.heap.size, 0, none⟩ = some (.string ⟨#[]⟩) := (hb1.cell (p := ⟨w.heap.size, 0, none⟩) (by simp; omega)).trans (by simp)
    have r2 : w1.cell? ⟨w.heap.size + 1, 0, none⟩ = some (.bool false) := (hb1.cell (p := ⟨w.heap.size + 1, 0, none⟩) (by simp)).trans (by simp)
    have r3 : w1.frozen? ⟨w.heap.size, 0, none⟩ = false := (hb1.frozen (p := ⟨w.heap.size, 0, none⟩) (by simp; omega)).trans (by simp)
    have r4 : w1.frozen? ⟨w.heap.size + 1, 0, none⟩ = false := (hb1.frozen (p := ⟨w.heap.size + 1, 0, none⟩) (by simp)).trans (by simp)
    have r5 : Below w.heap.size w w1 := (((Below.refl _ w).alloc (Nat.le_refl _) _).alloc (by simp) _).trans (hb1.mono (by simp; omega))
    clear hb1
    have hq : ∀ w5, Calls Tryz.prog 169 #[.string t] w5 fun e w'' => e = .returned (.bool (packT t)) ∧ w'' = w5 := fun w5 => (packed_any t w5 HTM.out).mono fun _ _ ⟨p, q⟩ => ⟨p, q.symm⟩
    rw [HP.out] at hq
    go_wp2_with (go_at_call 177; refine (HT.out _).mono ?_; rintro e w' ⟨rfl, rfl⟩)
    have hB0 := r5.setCell (p := ⟨w.heap.size, 0, none⟩) (Nat.le_refl _) (.string t)
    have q1 : (w1.setCell ⟨w.heap.size, 0, none⟩ (.string t)).cell? ⟨w.heap.size, 0, none⟩ = some (.string t) := World.cell?_setCell_same _ _ _ r1
    have q2 : (w1.setCell ⟨w.heap.size, 0, none⟩ (.string t)).cell? ⟨w.heap.size + 1, 0, none⟩ = some (.bool false) := (World.cell?_setCell_other _ _ _ _ (by simp)).trans r2
    have q3 : (w1.setCell ⟨w.heap.size, 0, none⟩ (.string t)).frozen? ⟨w.heap.size, 0, none⟩ = false := by rw [World.frozen?_setCell]; exact r3
    have q4 : (w1.setCell ⟨w.heap.size, 0, none⟩ (.string t)).frozen? ⟨w.heap.size + 1, 0, none⟩ = false := by rw [World.frozen?_setCell]; exact r4
    clear r1 r2 r3 r4 r5
    generalize w1.setCell ⟨w.heap.size, 0, none⟩ (.string t) = wr at *
    refine wp_region_still_tail 3 (by kernel_rfl) (by kernel_rfl) ?_
    simp only [List.take_succ_cons, List.take_zero, List.drop_succ_cons, List.drop_zero]
    still_step
    still_step
    still_call (hq _)
    refine wpStill_nil ?_
    have r1 : wr.drew.cell? ⟨w.heap.size, 0, none⟩ = some (.string t) := q1
    have r2 : wr.drew.cell? ⟨w.heap.size + 1, 0, none⟩ = some (.bool false) := q2
    have r3 : wr.drew.frozen? ⟨w.heap.size, 0, none⟩ = false := q3
    have r4 : wr.drew.frozen? ⟨w.heap.size + 1, 0, none⟩ = false := q4
    have r5 : Below w.heap.size w wr.drew := hB0.drew
    clear q1 q2 q3 q4 hB0
    change wpList _ _ _ _ _ wr.drew
    generalize wr.drew = w2 at *
    go_wp2
    refine leaves_cons (f := 176) (args := #[.pointer (some ⟨w.heap.size + 1, 0, none⟩), .pointer (some ⟨w.heap.size, 0, none⟩)]) (by simp) (by simp [go_sem]) ?_
    have hB := (r5.setCell (p := ⟨w.heap.size, 0, none⟩) (Nat.le_refl _) (.string t))
    have c1 : (w2.setCell ⟨w.heap.size, 0, none⟩ (.string t)).cell? ⟨w.heap.size, 0, none⟩ = some (.string t) := World.cell?_setCell_same _ _ _ r1
    have c2 : (w2.setCell ⟨w.heap.size, 0, none⟩ (.string t)).cell? ⟨w.heap.size + 1, 0, none⟩ = some (.bool false) := (World.cell?_setCell_other _ _ _ _ (by simp)).trans r2
    have f1 : (w2.setCell ⟨w.heap.size, 0, none⟩ (.string t)).frozen? ⟨w.heap.size, 0, none⟩ = false := by rw [World.frozen?_setCell]; exact r3
    generalize w2.setCell ⟨w.heap.size, 0, none⟩ (.string t) = w3 at *
    have hB' := hB.setCell (p := ⟨w.heap.size + 1, 0, none⟩) (by simp) (.bool (packT t))
    have c3 : (w3.setCell ⟨w.heap.size + 1, 0, none⟩ (.bool (packT t))).cell? ⟨w.heap.size, 0, none⟩ = some (.string t) := (World.cell?_setCell_other _ _ _ _ (by simp)).trans c1
    have c4 : (w3.setCell ⟨w.heap.size + 1, 0, none⟩ (.bool (packT t))).cell? ⟨w.heap.size + 1, 0, none⟩ = some (.bool (packT t)) := World.cell?_setCell_same _ _ _ c2
    have f3 : (w3.setCell ⟨w.heap.size + 1, 0, none⟩ (.bool (packT t))).frozen? ⟨w.heap.size, 0, none⟩ = false := by rw [World.frozen?_setCell]; exact f1
    rw [HP.out] at hB' c3 c4 f3
    have hn := HN.out
    clear c1 c2 f1 r1 r2 r3 r4 r5 hq
    first
    | refine (clearS_clear _ _ _ _ _ c4 c3 f3).mono ?_
      rintro e u' w'' ⟨rfl, rfl, rfl⟩
      rw [if_neg (by simp)] at hn
      have c5 := World.cell?_setCell_same _ _ (.string ⟨#[]⟩) c3
      have c6 := (World.cell?_setCell_other _ ⟨w.heap.size, 0, none⟩ ⟨w.heap.size + 1, 0, none⟩ (.string ⟨#[]⟩) (by simp)).trans c4
      have hB6 := hB'.setCell (p := ⟨w.heap.size, 0, none⟩) (Nat.le_refl _) (.string ⟨#[]⟩)
      simp [Leaves, settle, results, Tryz.results156, go_sem, c5, c6, hB6, hn, ofL]
    | refine (clearS_keep _ _ _ _ c4).mono ?_
      rintro e u' w'' ⟨rfl, rfl, rfl⟩
      simp only [if_true] at hn
      simp [Leaves, settle, results, Tryz.results156, go_sem, c3, c4, hB', hn]
end Go.Proofs.YtlpjdknmnomdlaaGreatDoor
