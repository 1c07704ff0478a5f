/-
  Package parse: the statements' own helpers.
-/
import Derived.Test.YtpnhjpplfjamkaaGreatDoorPParsed
namespace Go.Proofs.YtpnhjpplfjamkaaGreatDoor
open Go Go.RowKit

def cut80 (s : ByteArray) : ByteArray := if 80 < s.size then s.extract 0 80 else s
theorem size_cut80 (s : ByteArray) : (cut80 s).size ≤ 80 := by
  unfold cut80; split
  · rw [ByteArray.size_extract]; omega
  · omega
set_option maxRecDepth 100000 in
theorem short7_any (s : ByteArray) (w : World) (hs : s.size ≤ maxLen) :
    Calls Tryz.prog 12 #[.string s] w fun e w' => e = .returned (.string (cut80 s)) ∧ w = w' := by
  unfold maxLen at hs
  by_cases h : 80 < s.size
  · have HE := Lib.hid (show cut80 s = s.extract 0 80 by unfold cut80; rw [if_pos h])
    have h' : (80 : Int) < (s.size : Int) := by omega
    have h'' : (80 : Int) ≤ (s.size : Int) := by omega
    go_enter Tryz.func12, Tryz.ntmps12
    go_wp2
    go_ret
    exact ⟨ret_string HE.out.symm, rfl⟩
  · have HE := Lib.hid (show cut80 s = s by unfold cut80; rw [if_neg h])
    have h' : ¬ (80 : Int) < (s.size : Int) := by omega
    go_enter Tryz.func12, Tryz.ntmps12
    go_wp2
    go_ret
    exact ⟨ret_string HE.out.symm, rfl⟩

theorem rest7_num (x : Int) (n : Nat) (hn : 1 ≤ n) (hn2 : n ≤ 1048576) : (wrap64 (x.tmod n + n)).tmod n = (pickI n x : Int) := by
  obtain ⟨h1, h2, h3, _⟩ := pick_facts n x hn
  rw [show wrap64 (x.tmod n + n) = x.tmod n + n from IntWalk.wrap64_in _ ⟨by omega, by omega⟩]
  exact h3
set_option maxRecDepth 100000 in
theorem rest7_any (x : Int) (n : Nat) (w : World) (hn : 1 ≤ n) (hn2 : n ≤ 1048576) :
    Calls Tryz.prog 10 #[.int .i64 x, .int .i64 (n : Int)] w fun e w' => e = .returned (.int .i64 (pickI n x : Int)) ∧ w = w' := by
  have HE := Lib.hid (rest7_num x n hn hn2)
  have h0 : ((n : Int) == 0) = false := by rw [beq_eq_false_iff_ne]; omega
  have h1 : (n : Int) ≠ 0 := by omega
  clear hn hn2
  generalize (n : Int) = m at *
  go_enter Tryz.func10, Tryz.ntmps10
  go_wp2
  go_ret
  exact ⟨ret_int HE.out, rfl⟩

set_option maxRecDepth 100000 in
theorem joinNone7 (w : World) :
    Calls Tryz.prog 19 #[.slice none 0 0] w fun e w' => e = .returned (.string (joinS [])) ∧ w = w' := by
  go_enter Tryz.func19, Tryz.ntmps19
  go_wp2
  go_loop [3, 4] (fun t i => i = .int .i64 0 ∧ t = .string ⟨#[]⟩) (fun _ _ => 0)
  case atStart => exact ⟨rfl, rfl⟩
  case round =>
    obtain ⟨rfl, rfl⟩ := hrel
    go_wp2
    go_ret
    exact ⟨rfl, rfl⟩
/-- A row that the call has made, joined. -/
theorem joinRow7 {W : World} {base : Nat} {u : Value} {l : List ByteArray} (h : W.ownsRow base 9 1 u l.length (strs l)) (hl : l.length ≤ 20003) (hp : ∀ p ∈ l, p.size ≤ 1048576) :
    Calls Tryz.prog 19 #[u] W fun e w' => e = .returned (.string (joinS l)) ∧ W = w' := by
  obtain ⟨ao, cp, he, hc⟩ := Row.of_own h
  rcases owned_cases h with ⟨h1, h2⟩ | ⟨g, c, h1⟩
  · rw [h1, List.eq_nil_of_length_eq_zero h2]
    exact joinNone7 W
  · rw [h1]
    have hc' : ∀ i p, l[i]? = some p → W.cell? ⟨g, i, none⟩ = some (.string p) := fun i p hp => by
      obtain ⟨g', e, hcc⟩ := hc i p hp
      rw [h1] at he
      injection he with he _ _
      rw [e] at he
      injection he with he
      injection he with he _ _
      rw [he]
      exact hcc
    refine (join_big g l.length c l W (Nat.le_refl _) hl hp hc').mono fun e w' ⟨p, q⟩ => ⟨?_, q⟩
    rw [p, List.take_of_length_le (Nat.le_refl _)]
set_option maxRecDepth 100000 in
theorem text_ref (v : Value) (T : TagM) (w : World) (hT : TagIs w v T) (ht : TagTiny T) :
    Calls Tryz.prog 6 #[v] w fun e w' => e = .returned (.string (joinS (subtagsT T))) ∧ Below w.heap.size w w' := by
  have SR := Lib.hid (fun w5 (hb : Below w.heap.size w w5) => subtags_ref v T w5 (hT.below hb) ht.fits)
  have HLN := Lib.hid (tiny_len ht)
  have HSZ := Lib.hid (tiny_sizes ht)
  obtain ⟨ve, vv, vx, vp, rfl, ⟨a1, c1, rfl, _⟩, ⟨a2, c2, rfl, _⟩, ⟨a3, c3, rfl, _⟩, ⟨a4, c4, rfl, _⟩⟩ := hT
  clear ht
  go_enter Tryz.func6, Tryz.ntmps6
  go_wp2_with (first
    | (go_at_call 20; (with_reducible refine (SR.out _ ((Below.refl _ w).alloc (Nat.le_refl _) _)).mono ?_); rintro e w6 ⟨u, rfl, ho, hb6⟩; have JR := Lib.hid (joinRow7 ho (by have := HLN.out; omega) (fun p hp => by have := HSZ.out p hp; omega)); clear ho)
    | (go_at_call 19; (with_reducible refine JR.out.mono ?_); rintro e w7 ⟨rfl, rfl⟩))
  go_ret
  exact ⟨rfl, ((Below.refl _ w).alloc (Nat.le_refl _) _).trans (hb6.mono (by simp))⟩

/-- What is spoilt is not much longer. -/
def Spoils (s : ByteArray) (e : Ending) : Prop := ∃ t, e = .returned (.string t) ∧ t.size ≤ s.size + 1
/-- One byte, turned into a text. -/
def byteT (q : Int) : ByteArray := ofL [UInt8.ofNat (q % 256).toNat]
theorem size_byteT (q : Int) : (byteT q).size = 1 := by unfold byteT; rw [size_ofL]; rfl
theorem conv_byte {W : World} {g : Nat} (q : Int) (h : W.heap[g]? = some (.cells #[.int .u8 (q % 256)] 5 (0, 0))) : (convert 58 9 (.slice (some ⟨g, 0, none⟩) 1 1)).run Tryz.prog W = .ok (.string (byteT q)) W := by
  refine conv_owned (B := 0) [UInt8.ofNat (q % 256).toNat] ⟨rfl, .inr ⟨g, 1, _, rfl, Nat.zero_le _, h, Nat.le_refl _, by decide, rfl, ?_⟩⟩
  have h0 := Int.emod_nonneg q (show (256 : Int) ≠ 0 by decide)
  have h1 := Int.emod_lt_of_pos q (show (0 : Int) < 256 by decide)
  simp [bcells]
  omega
set_option maxRecDepth 100000 in
set_option maxHeartbeats 2000000 in
theorem spoilt7_any (s : ByteArray) (q0 q1 q2 : Int) (w : World) (hs : s.size ≤ 1000000) :
    Calls Tryz.prog 13 #[.string s, .agg #[.int .i64 q0, .int .i64 q1, .int .i64 q2]] w fun e w' => Spoils s e ∧ Below w.heap.size w w' := by
  have hcv := conv_byte (W := (w.alloc (.cells #[.int .i64 q0, .int .i64 q1, .int .i64 q2] 25)).alloc (.cells #[.int .u8 (q2 % 256)] 5)) (g := w.heap.size + 1) q2 (by have := World.alloc_heap_new (w.alloc (.cells #[.int .i64 q0, .int .i64 q1, .int .i64 q2] 25)) (.cells #[.int .u8 (q2 % 256)] 5); rwa [World.size_alloc] at this)
  have hB := Lib.hid (((Below.refl w.heap.size w).alloc (Nat.le_refl _) (.cells #[.int .i64 q0, .int .i64 q1, .int .i64 q2] 25)).alloc (by simp) (.cells #[.int .u8 (q2 % 256)] 5))
  have hsb := size_byteT q2
  generalize byteT q2 = c at *
  have HSB := Lib.hid hsb
  clear hsb
  by_cases hz : s.size = 0
  · have he := empty_true hz
    clear hs
    go_enter Tryz.func13, Tryz.ntmps13
    go_wp2_with fail
    go_ret
    exact ⟨⟨_, rfl, by rw [HSB.out]; omega⟩, hB.out⟩
  · have he := empty_false (s := s) (by omega)
    have R3 := Lib.hid (fun w5 => show Calls Tryz.prog 10 #[.int .i64 q0, .int .i64 3] w5 _ from rest7_any q0 3 w5 (by decide) (by decide))
    have RS := Lib.hid (fun w5 => rest7_any q1 s.size w5 (by omega) (by omega))
    have hr := (pick_facts 3 q0 (by decide)).2.2.2
    have hi := (pick_facts s.size q1 (by omega)).2.2.2
    generalize pickI s.size q1 = i at *
    have hi0 : (0 : Int) ≤ (i : Int) := by omega
    have hi1 : (i : Int) < (s.size : Int) := by omega
    have hi2 : (i : Int) + 1 ≤ (s.size : Int) := by omega
    have hi3 : (i : Int) ≤ (s.size : Int) := by omega
    have hs1 : (s.size : Int) ≤ 1000000 := by omega
    have hm : min i s.size = i := by omega
    have n1 : ¬ 9223372036854775807 < i + 1 := by omega
    have n2 : ¬ 9223372036854775807 < i + 1 + (s.size - (i + 1)) := by omega
    have n3 : ¬ 9223372036854775807 < i + (s.size - (i + 1)) := by omega
    have n4 : ¬ 9223372036854775807 < i + 1 + (s.size - i) := by omega
    have csz : c.size = 1 := HSB.out
    have hp : pickI 3 q0 = 0 ∨ pickI 3 q0 = 1 ∨ pickI 3 q0 = 2 := by omega
    clear hr
    rcases hp with hp | hp | hp
    · rw [hp] at R3
      clear hp
      go_enter Tryz.func13, Tryz.ntmps13
      go_upto_region 7 with (first
        | (go_at_call 10; (with_reducible refine (RS.out _).mono ?_); rintro e w5 ⟨rfl, rfl⟩)
        | (go_at_call 10; (with_reducible refine (R3.out _).mono ?_); rintro e w5 ⟨rfl, rfl⟩))
      go_region
      all_goals
        go_wp2_with fail
        go_ret
        exact ⟨⟨_, rfl, by simp only [ByteArray.size_append, ByteArray.size_extract]; omega⟩, hB.out.drew⟩
    · rw [hp] at R3
      clear hp
      go_enter Tryz.func13, Tryz.ntmps13
      go_upto_region 9 with (first
        | (go_at_call 10; (with_reducible refine (RS.out _).mono ?_); rintro e w5 ⟨rfl, rfl⟩)
        | (go_at_call 10; (with_reducible refine (R3.out _).mono ?_); rintro e w5 ⟨rfl, rfl⟩))
      go_region
      all_goals
        go_wp2_with fail
        go_ret
        exact ⟨⟨_, rfl, by simp only [ByteArray.size_append, ByteArray.size_extract]; omega⟩, hB.out.drew⟩
    · rw [hp] at R3
      clear hp
      go_enter Tryz.func13, Tryz.ntmps13
      go_upto_region 10 with (first
        | (go_at_call 10; (with_reducible refine (RS.out _).mono ?_); rintro e w5 ⟨rfl, rfl⟩)
        | (go_at_call 10; (with_reducible refine (R3.out _).mono ?_); rintro e w5 ⟨rfl, rfl⟩))
      go_region
      all_goals
        go_wp2_with fail
        go_ret
        exact ⟨⟨_, rfl, by simp only [ByteArray.size_append, ByteArray.size_extract]; omega⟩, hB.out.drew⟩
end Go.Proofs.YtpnhjpplfjamkaaGreatDoor
