/-
  The document's reader (isoglossref07): all subtags from there on that are long enough.
-/
import Derived.Test.YtpnhjpplfjamkaaGreatDoorQTwo
namespace Go.Proofs.YtpnhjpplfjamkaaGreatDoor
open Go Go.RowKit

theorem RefRd.kept {W w' : World} {B g cap : Nat} {s : ByteArray} {k : Nat} {row : Option Nat} (h : RefRd W B g cap s k) (hg : W.grownBy w' row) (h1 : some B ≠ row) (h2 : some g ≠ row) : RefRd w' B g cap s k := by
  have e := hg.block g h.lt h2
  exact ⟨(hg.block B (lt_of_heap h.blk) h1).trans h.blk, fun i x hx => ⟨(World.cell?_of_block (a := ⟨g, i * 2, none⟩) e).trans (h.row i x hx).1, (World.cell?_of_block (a := ⟨g, i * 2 + 1, none⟩) e).trans (h.row i x hx).2⟩, Nat.lt_of_lt_of_le h.lt hg.size⟩
theorem RefRd.step {W : World} {B g cap : Nat} {s : ByteArray} {k : Nat} {v : Int} (h : RefRd W B g cap s k) (hne : g ≠ B) (hv : v = ((k + 1 : Nat) : Int)) : RefRd (W.setCell ⟨B, 1, none⟩ (.int .i64 v)) B g cap s (k + 1) := by
  subst hv
  have e := Below.heap_setCell W ⟨B, 1, none⟩ (.int .i64 ((k + 1 : Nat) : Int)) g hne
  exact ⟨cells_set (k := 1) h.blk _, fun i x hx => ⟨(World.cell?_of_block (a := ⟨g, i * 2, none⟩) e).trans (h.row i x hx).1, (World.cell?_of_block (a := ⟨g, i * 2 + 1, none⟩) e).trans (h.row i x hx).2⟩, by have := h.lt; simpa [World.setCell] using this⟩
theorem grown_ofB {W w' : World} {row : Option Nat} (hb : Below W.heap.size W w') : W.grownBy w' row := ⟨hb.os, hb.tape, hb.output, hb.size, fun k hk _ => hb.block k hk⟩
def sliceLen7 : Value → Nat
  | .slice _ n _ => n
  | _ => 0
theorem own_setOther7 {w : World} {base e sz n B k : Nat} {v : Value} {xs : List Value} (h : w.ownsRow base e sz v n xs) (hB : v.ownBlock ≠ some B) (u : Value) : (w.setCell ⟨B, k, none⟩ u).ownsRow base e sz v n xs :=
  h.kept (grown_setF (World.grownBy.refl w (some B)) k u) (by
    cases hv : v.ownBlock with
    | none => exact .inl rfl
    | some g => exact .inr (fun e => hB (hv.trans e)))
theorem grown_ofB' {W0 W w' : World} {B : Nat} {row : Option Nat} (hg : W.grownBy w' row) (hr : ∀ k, row = some k → W0.heap.size ≤ k) (h0 : W0.grownBy W (some B)) : W0.grownBy w' (some B) :=
  ⟨hg.os.trans h0.os, hg.tape.trans h0.tape, hg.output.trans h0.output, Nat.le_trans h0.size hg.size, fun k hk hne => (hg.block k (Nat.lt_of_lt_of_le hk h0.size) (fun e => by have := hr k e.symm; omega)).trans (h0.block k hk hne)⟩
/-- What stands from there on. -/
def fromL (L : List (Nat × ByteArray)) (k m : Nat) : List ByteArray := (List.range m).map fun i => hereP L (k + i)
theorem fromL_len (L : List (Nat × ByteArray)) (k m : Nat) : (fromL L k m).length = m := by simp [fromL]
theorem fromL_next (L : List (Nat × ByteArray)) (k m : Nat) : fromL L k (m + 1) = fromL L k m ++ [hereP L (k + m)] := by simp [fromL, List.range_succ]
/-- What the reader's subs leaves. -/
structure SubsQ (W w' : World) (B g cap : Nat) (s : ByteArray) (k low m : Nat) (u : Value) : Prop where
  own : w'.ownsRow W.heap.size 9 1 u m (strs (fromL (pieces s) k m))
  rd : RefRd w' B g cap s (k + m)
  gr : W.grownBy w' (some B)
  le : k + m ≤ (pieces s).length
  all : ∀ i, i < m → (hereP (pieces s) (k + i)).size ≠ 0 ∧ low ≤ (hereP (pieces s) (k + i)).size
theorem here_size (L : List (Nat × ByteArray)) (k : Nat) : (hereP L k).size ≤ 8 := by
  by_cases h : (hereP L k).size = 0
  · omega
  · obtain ⟨_, _, _, hh, ho⟩ := here_is h
    rw [← hh] at ho
    unfold okS at ho
    rw [Bool.and_eq_true, decide_eq_true_iff] at ho
    exact ho.1
theorem empty_of {p : ByteArray} (h : p.size = 0) : p.toList.isEmpty = true := by
  rw [ByteArray.toList_eq]
  have : p.data.toList = [] := List.eq_nil_of_length_eq_zero (by simpa using h)
  rw [this]; rfl
theorem empty_not {p : ByteArray} (h : p.size ≠ 0) : p.toList.isEmpty = false := by
  rw [ByteArray.toList_eq]
  cases hp : p.data.toList with
  | nil => exact absurd (show p.size = 0 by have := congrArg List.length hp; simpa using this) h
  | cons a b => rfl
set_option maxRecDepth 100000 in
set_option maxHeartbeats 4000000 in
theorem subs_ref7 {W : World} {B g cap : Nat} {s : ByteArray} {k : Nat} (low : Nat) (h : RefRd W B g cap s k) (hne : g ≠ B) (hs : s.size ≤ 1048576) (hk : k ≤ (pieces s).length) (LW : Int) (hLW : LW = (low : Int)) :
    Calls Tryz.prog 55 #[.pointer (some ⟨B, 0, none⟩), .int .i64 LW] W fun e w' => ∃ u m, e = .returned u ∧ SubsQ W w' B g cap s k low m u ∧ ¬ ((hereP (pieces s) (k + m)).size ≠ 0 ∧ low ≤ (hereP (pieces s) (k + m)).size) := by
  obtain ⟨i0, hii, iz0, iz1, iz2⟩ := info_parts stringInfo
  have hn : (pieces s).length ≤ 1048577 := by have := splS_le s; rw [pieces_length]; omega
  have hgl := h.lt
  have hBl := lt_of_heap h.blk
  have HI := Lib.hid (show SubsQ W W B g cap s k low 0 (.slice none 0 0) from ⟨World.ownsRow_nil _ _ _ _, h, World.grownBy.refl _ _, by simpa using hk, fun i hi => by omega⟩)
  subst hLW
  clear h
  go_enter Tryz.func55, Tryz.ntmps55
  go_wp2_with fail
  go_loopw [5] (fun u wr => ∃ m : Nat, Hid (SubsQ W wr B g cap s k low m u)) (fun u _ => (pieces s).length + 1 - sliceLen7 u)
  case atStart => exact ⟨0, HI⟩
  case round =>
    obtain ⟨m, HQ⟩ := hrel
    have hle := HQ.out.le
    have HH := Lib.hid (fun (w5 : World) (hr : RefRd w5 B g cap s (k + m)) => here_ref hr hs (by omega))
    have hsz := HQ.out.gr.size
    obtain ⟨ua, un, uc, rfl⟩ := own_slice HQ.out.own
    obtain rfl : un = m := by
      rcases owned_cases HQ.out.own with ⟨h1, h2⟩ | ⟨g9, c9, h1⟩
      · cases h1; exact h2.symm
      · cases h1; rfl
    have HIS := Lib.hid (fun (h : (hereP (pieces s) (k + un)).size ≠ 0) => here_is h)
    have HF := Lib.hid (fromL_next (pieces s) k un)
    have HA := Lib.hid HQ.out.all
    obtain ⟨p, hp⟩ : ∃ p, hereP (pieces s) (k + un) = p := ⟨_, rfl⟩
    have HP := Lib.hid hp
    rw [hp] at HH HF HIS
    clear hp
    by_cases h0 : p.size = 0
    · have he := empty_of h0
      have H0 := Lib.hid h0
      clear h0
      go_wp2_with (go_at_call 46; (with_reducible refine (HH.out _ HQ.out.rd).mono ?_); rintro e w5 ⟨rfl, hb5⟩)
      go_ret
      exact ⟨_, un, rfl, ⟨ownsRow_belowF HQ.out.own hb5, HQ.out.rd.below hb5, HQ.out.gr.trans (grown_ofB hb5), hle, HA.out⟩, by rw [HP.out, H0.out]; simp⟩
    · have he := empty_not h0
      by_cases hl : low ≤ p.size
      · have hli : (low : Int) ≤ (p.size : Int) := by omega
        have hlt : k + un < (pieces s).length := by obtain ⟨_, _, h, _, _⟩ := HIS.out h0; exact h
        have H0 := Lib.hid (And.intro h0 hl)
        have hv : ((k + un : Nat) : Int) + 1 = ((k + un + 1 : Nat) : Int) := by omega
        have HV := Lib.hid hv
        clear h0 hl hv
        go_wp2_with (first
          | (go_at_call 46; (with_reducible refine (HH.out _ HQ.out.rd).mono ?_); rintro e w5 ⟨rfl, hb5⟩; have rd5 := Lib.hid (HQ.out.rd.below hb5))
          | (go_at_call 46; (with_reducible refine (HH.out _ rd5.out).mono ?_); rintro e w6 ⟨rfl, hb6⟩; have rd6 := Lib.hid (rd5.out.below hb6))
          | (go_at_call 46; (with_reducible refine (HH.out _ rd6.out).mono ?_); rintro e w7 ⟨rfl, hb7⟩; have rd7 := Lib.hid (rd6.out.below hb7); have HO7 := Lib.hid (ownsRow_belowF (ownsRow_belowF (ownsRow_belowF HQ.out.own hb5) hb6) hb7); have hs7 := Nat.le_trans hsz (Nat.le_trans hb5.size (Nat.le_trans hb6.size hb7.size)))
          | (at_builtin; refine wpList_append_any _ rfl _ _ 28 rfl W.heap.size 9 i0 (.string ByteArray.empty) 1 16 Tryz.underlying28 hii iz0 iz1 iz2 rfl (by decide) _ un _ rfl (HO7.out.alloc _) (some ⟨w7.heap.size, 0, none⟩) 1 1 [.string p] rfl rfl (fun h => by cases h) (fun ad had j u hu => by cases had; exact World.news_of_block (World.alloc_heap_new w7 _) j u hu) (by intro u hu; simp at hu; subst hu; rfl) (by unfold maxLen; omega) (by omega) (Nat.le_trans hs7 (by simp)) ?_; intro v8 w8 hown8 hgrow8; have rd8 := Lib.hid ((rd7.out.below ((Below.refl _ w7).alloc (Nat.le_refl _) (.cells #[.string p] 9))).kept hgrow8 (fun e => Nat.lt_irrefl _ (Nat.lt_of_lt_of_le hBl (HO7.out.lt _ e.symm).1)) (fun e => Nat.lt_irrefl _ (Nat.lt_of_lt_of_le hgl (HO7.out.lt _ e.symm).1))); obtain ⟨x0, x1, x2⟩ := rd8.out.cells; have y1 := cells_frozen 1 rd8.out.blk))
        go_roundw
        case rel =>
          have hst := rd8.out.step hne HV.out
          refine ⟨un + 1, Lib.hid ⟨?_, hst, ?_, by omega, ?_⟩⟩
          · rw [HF.out]
            have ho := own_setOther7 (B := B) (k := 1) hown8 (fun e => Nat.lt_irrefl _ (Nat.lt_of_lt_of_le hBl (hown8.lt _ e).1)) (.int .i64 (((k + un : Nat) : Int) + 1))
            simpa [strs] using ho
          · have g1 : W.grownBy w8 (some B) := grown_ofB' hgrow8 (fun k hk => (HO7.out.lt k hk).1) ((((HQ.out.gr.trans (grown_ofB hb5)).trans (grown_ofB hb6)).trans (grown_ofB hb7)).trans (grown_ofB ((Below.refl _ w7).alloc (Nat.le_refl _) (.cells #[.string p] 9))))
            exact grown_setF g1 1 _
          · intro i hi
            rcases Nat.lt_or_ge i un with h | h
            · exact HA.out i h
            · obtain rfl : i = un := by omega
              rw [HP.out]
              exact H0.out
        case measure =>
          obtain ⟨a8, n8, c8, rfl⟩ := own_slice hown8
          obtain rfl : n8 = un + 1 := by
            rcases owned_cases hown8 with ⟨h1, h2⟩ | ⟨g9, c9, h1⟩
            · cases h1; exact h2.symm
            · cases h1; rfl
          simp [sliceLen7]
          omega
      · have hli : ¬ (low : Int) ≤ (p.size : Int) := by omega
        have H0 := Lib.hid hl
        clear h0 hl
        go_wp2_with (first
          | (go_at_call 46; (with_reducible refine (HH.out _ HQ.out.rd).mono ?_); rintro e w5 ⟨rfl, hb5⟩; have rd5 := Lib.hid (HQ.out.rd.below hb5))
          | (go_at_call 46; (with_reducible refine (HH.out _ rd5.out).mono ?_); rintro e w6 ⟨rfl, hb6⟩; have rd6 := Lib.hid (rd5.out.below hb6)))
        go_ret
        exact ⟨_, un, rfl, ⟨ownsRow_belowF (ownsRow_belowF HQ.out.own hb5) hb6, rd6.out, (HQ.out.gr.trans (grown_ofB hb5)).trans (grown_ofB hb6), hle, HA.out⟩, by rw [HP.out]; exact fun h => H0.out h.2⟩
end Go.Proofs.YtpnhjpplfjamkaaGreatDoor
