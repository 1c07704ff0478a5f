/-
  GrandCases: it returns true.
-/
import Derived.Test.YtaeaknpkjgacdaaDoorEKit
namespace Go.Proofs.YtaeaknpkjgacdaaDoor
open Go Go.RowKit

theorem slice_one (s : ByteArray) (k : Nat) (h : k < s.size) (w : World) :
    (Instr.slice 9 (.string s) (some (.int .i64 (k : Int))) (some (.int .i64 ((k : Int) + 1))) none).run Tryd.prog w = .ok (.string (s.extract k (k + 1))) w := by
  rw [run_slice_string w 9 s .i64 .i64 (k : Int) ((k : Int) + 1) Tryd.underlying9 (by omega) (by omega) (by omega), show ((k : Int) + 1).toNat = k + 1 by omega, Int.toNat_natCast]
theorem one_size (s : ByteArray) (k : Nat) (h : k < s.size) : (s.extract k (k + 1)).size = 1 := by rw [ByteArray.size_extract]; omega
theorem bs_one (s : ByteArray) (k : Nat) (h : k < s.size) : bs (s.extract k (k + 1)) = [s[k]] := by
  rw [bs_extract, show k + 1 - k = 1 by omega]
  have hb : k < (bs s).length := by rw [size_bs]; exact h
  rw [List.drop_eq_getElem_cons hb]
  have hg : (bs s)[k] = s[k] := by show s.data.toList[k]'hb = s.data[k]; simp
  simp [hg]
/-- The bytes of a text, in whatever cases, so far. -/
def CsI (s : ByteArray) (w : World) (k : Nat) (v : Value) (wr : World) : Prop :=
  ∃ L : List UInt8, L.map lowB = ((bs s).take k).map lowB ∧ wr.ownsRow w.heap.size 5 1 v k (bcells L) ∧ Below w.heap.size w wr
theorem CsI.start {s : ByteArray} {w : World} : CsI s w 0 (.slice none 0 0) w := ⟨[], by simp, World.ownsRow_nil _ _ _ _, Below.refl _ _⟩
theorem get_of_bs {c : ByteArray} {b : UInt8} (h : bs c = [b]) (h0 : 0 < c.size) : c[0] = b := by
  have : c = ofL [b] := by rw [← h, ofL_bs]
  subst this
  rfl
theorem CsI.step {s : ByteArray} {w wr w1 : World} {k : Nat} {v v' : Value} {d : UInt8} {o : Obj} (h : CsI s w k v wr) (hk : k < s.size) (hd : lowB d = lowB s[k]) {L : List UInt8} (hL : L.map lowB = ((bs s).take k).map lowB)
    (h1 : w1.ownsRow w.heap.size 5 1 v' (k + 1) (bcells L ++ [.int .u8 (d.toNat : Int)])) (hg : (wr.alloc o).grownBy w1 v.ownBlock) : CsI s w (k + 1) v' w1 := by
  obtain ⟨L0, _, h3, hB⟩ := h
  refine ⟨L ++ [d], ?_, ?_, (hB.alloc hB.size o).grown hg (by simp; have := hB.size; omega) (fun r e => (h3.lt r e).1)⟩
  · rw [bs_take_succ s k hk, List.map_append, List.map_append, hL]
    simp [hd]
  · rw [bcells_append]; exact h1
theorem own_later {w w' : World} {base : Nat} {e : TypeId} {size : Nat} {v : Value} {n : Nat} {xs : List Value} (h : w.ownsRow base e size v n xs) (hb : Below w.heap.size w w') : w'.ownsRow base e size v n xs :=
  h.kept (row := none) ⟨hb.os, hb.tape, hb.output, hb.size, fun k hk _ => hb.block k hk⟩ (by cases v.ownBlock <;> simp)
theorem no_blank (j : Nat) (hj : j < 26) : (32 : UInt8) ∉ bs (nameG j) := name_all (fun j => (32 : UInt8) ∉ bs (nameG j)) (by decide +kernel) j hj
theorem no_dash (j : Nat) (hj : j < 26) : (bs (nameG j)).head? ≠ some 45 := name_all (fun j => (bs (nameG j)).head? ≠ some 45) (by decide +kernel) j hj
theorem find_blank (x : ByteArray) : findV (x ++ ⟨#[32]⟩) = none := findV_of fun j hj e => no_blank j hj (by
  have h := congrArg bs e
  rw [low_bs] at h
  rw [← h, show bs (x ++ ⟨#[32]⟩) = bs x ++ [32] by simp [bs], List.map_append]
  exact List.mem_append_right _ (by decide))
theorem find_dash (x : ByteArray) : findV (⟨#[45]⟩ ++ x) = none := findV_of fun j hj e => no_dash j hj (by
  have h := congrArg bs e
  rw [low_bs] at h
  rw [← h, show bs (⟨#[45]⟩ ++ x) = 45 :: bs x by simp [bs]]
  rfl)

set_option maxHeartbeats 2000000 in
theorem cases_law (n bits : Int) (w : World) (_hn : (Lit.int .i64 n).wf = true) (_hb : (Lit.int .i64 bits).wf = true) (hg : GL w) :
    Calls Tryd.prog 7 #[.int .i64 n, .int .i64 bits] w fun e w' => e = .returned (.bool true) ∧ Below w.heap.size w w' := by
  obtain ⟨i0, hi, hz0, hz1, hz2⟩ := info_parts byteInfo
  have hgs := hg.size
  have AW := Lib.hid (awake5_any w hg)
  obtain ⟨k, hk⟩ : ∃ k, restV n 26 = k := ⟨_, rfl⟩
  have hk26 : k < 26 := hk ▸ restV_lt n 26 (by omega)
  have RS := Lib.hid (fun w5 => show Calls Tryd.prog 11 #[.int .i64 n, .int .i64 26] w5 fun e w' => e = .returned (.int .i64 (k : Int)) ∧ w5 = w' by
    have := rest5_any n 26 w5 (by omega) (by omega)
    rwa [hk] at this)
  have NA := Lib.hid (fun w5 (hb5 : Below w.heap.size w w5) => (name_any k w5 (hg.below hb5 hgs)).mono (R' := fun e w6 => e = .returned (.tuple #[.string (nameG k), .bool true]) ∧ Below w.heap.size w w6) fun e w6 ⟨p, q⟩ => ⟨by rw [p, nameV_in k hk26], hb5.trans (q.mono hb5.size)⟩)
  have FI := Lib.hid (fun s w5 (hs : s.size ≤ 100) (hb5 : Below w.heap.size w w5) => (find_any s w5 (by unfold maxLen; omega) (hg.below hb5 hgs)).mono (R' := fun e w6 => e = .returned (.tuple #[.int .i64 ((findV s).getD 0 : Nat), .bool (findV s).isSome]) ∧ Below w5.heap.size w5 w6) fun e w6 ⟨p, q⟩ => ⟨p, q⟩)
  have hsz := (name_size k hk26).2
  clear hg hk
  obtain ⟨s, hs⟩ : ∃ s, nameG k = s := ⟨_, rfl⟩
  have HS := Lib.hid hs
  rw [hs] at NA hsz
  clear hs
  go_enter Tryd.func7, Tryd.ntmps7
  go_wp2_with (first
      | (go_at_call 8; (with_reducible refine AW.out.mono ?_); rintro e w1 ⟨rfl, hb1⟩)
      | (go_at_call 18; (with_reducible refine (len_any _).mono ?_); rintro e w2 ⟨rfl, rfl⟩)
      | (go_at_call 11; (with_reducible refine (RS.out _).mono ?_); rintro e w2 ⟨rfl, rfl⟩)
      | (go_at_call 16; (with_reducible refine (NA.out _ hb1).mono ?_); rintro e w3 ⟨rfl, hb3⟩))
  go_loopw [9, 10] (fun v i wr => ∃ j : Nat, j ≤ s.size ∧ i = .int .i64 (j : Int) ∧ CsI s w3 j v wr) (fun _ i _ => 12 - (intOf i).toNat)
  case atStart => exact ⟨0, Nat.zero_le _, rfl, CsI.start⟩
  case round =>
    obtain ⟨j, hj, rfl, HR⟩ := hrel
    by_cases hlt : j < s.size
    · have hlti : (j : Int) < (s.size : Int) := by omega
      have hsl := slice_one s j hlt
      have hc1 := one_size s j hlt
      have hcb := bs_one s j hlt
      have h0 : (0 : Int) ≤ (j : Int) := by omega
      have h11 : (j : Int) ≤ 11 := by omega
      have UC := Lib.hid (fun w5 => (upper_ref (s.extract j (j + 1)) w5 (by rw [hc1]; omega)))
      have hu1 : (upS (s.extract j (j + 1))).size = 1 := by rw [size_upS, hc1]
      have hub : bs (upS (s.extract j (j + 1))) = [upB s[j]] := by unfold upS; rw [bs_ofL, hcb]; rfl
      generalize upS (s.extract j (j + 1)) = uc at *
      generalize s.extract j (j + 1) = c at *
      have hc0 : 0 < c.size := by omega
      have hu0 : 0 < uc.size := by omega
      have HD := Lib.hid (show lowB c[0] = lowB s[j] by rw [get_of_bs hcb hc0])
      have HU := Lib.hid (show lowB uc[0] = lowB s[j] by rw [get_of_bs hub hu0, low_up])
      obtain ⟨L, hL, hO, hB⟩ := id HR
      have HL := Lib.hid hL
      clear hcb hub hL
      have hsz : w3.heap.size ≤ wr.heap.size := hB.size
      go_wp2_with (first
        | (go_at_call 12; (with_reducible refine (UC.out _).mono ?_); rintro e w5 ⟨rfl, hb5⟩; have hO := own_later hO hb5; have HR : CsI s w3 j _ w5 := ⟨L, HL.out, hO, hB.trans (hb5.mono hsz)⟩; have hsz := Nat.le_trans hsz hb5.size)
        | (at_builtin; refine wpList_append_own _ rfl _ _ 28 rfl w3.heap.size 5 i0 (.int .u8 0) 1 1 Tryd.underlying28 hi hz0 hz1 hz2 rfl (by decide) _ j _ rfl (hO.alloc _) ⟨_, 0, none⟩ 1 1 _ rfl (by rfl) (cell_one_new _ _ _) (by intro u hu; simp at hu; subst hu; rfl) (by unfold maxLen; omega) (by omega) (by simp; omega) ?_; intro v' w6 hown1 hgrow _))
      · exact ⟨⟨j + 1, by omega, by go_num, HR.step hlt (by first | exact HU.out | exact HD.out) HL.out hown1 hgrow⟩, by simp [intOf]; omega⟩
      · exact ⟨⟨j + 1, by omega, by go_num, HR.step hlt (by first | exact HU.out | exact HD.out) HL.out hown1 hgrow⟩, by simp [intOf]; omega⟩
    · obtain rfl : j = s.size := by omega
      obtain ⟨L, hL, hO, hB⟩ := HR
      have hll : L.length = s.size := by
        have := congrArg List.length hL
        rw [List.length_map, List.length_map, List.length_take, size_bs] at this
        omega
      rw [List.take_of_length_le (by rw [size_bs]; exact Nat.le_refl _)] at hL
      have hlow : lowS (ofL L) = nameG k := by rw [← name_low k hk26, HS.out]; unfold lowS; rw [bs_ofL, hL]
      have hf1 := (findV_iff (ofL L) k hk26).2 hlow
      have hf2 := find_blank (ofL L)
      have hf3 := find_dash (ofL L)
      have hxs : (ofL L).size = s.size := by rw [size_ofL, hll]
      rw [← hll] at hO
      have CV := Lib.hid (fun w5 (hb5 : Below wr.heap.size wr w5) => conv_owned (w := w5) L (own_later hO hb5))
      have hb3' := hb3.trans (hB.mono hb3.size)
      generalize ofL L = x at *
      have F1 := Lib.hid (fun w5 (hb5 : Below wr.heap.size wr w5) => (FI.out x w5 (by omega) (hb3'.trans (hb5.mono hb3'.size))).mono (R' := fun e w6 => e = .returned (.tuple #[.int .i64 (k : Int), .bool true]) ∧ Below wr.heap.size wr w6) fun e w6 ⟨p, q⟩ => ⟨by rw [p, hf1]; rfl, hb5.trans (q.mono hb5.size)⟩)
      have F2 := Lib.hid (fun w5 (hb5 : Below wr.heap.size wr w5) => (FI.out (x ++ ⟨#[32]⟩) w5 (by rw [ByteArray.size_append, hxs]; have h1 : ByteArray.size ⟨#[32]⟩ = 1 := rfl; omega) (hb3'.trans (hb5.mono hb3'.size))).mono (R' := fun e w6 => e = .returned (.tuple #[.int .i64 0, .bool false]) ∧ Below wr.heap.size wr w6) fun e w6 ⟨p, q⟩ => ⟨by rw [p, hf2]; rfl, hb5.trans (q.mono hb5.size)⟩)
      have F3 := Lib.hid (fun w5 (hb5 : Below wr.heap.size wr w5) => (FI.out (⟨#[45]⟩ ++ x) w5 (by rw [ByteArray.size_append, hxs]; have h1 : ByteArray.size ⟨#[45]⟩ = 1 := rfl; omega) (hb3'.trans (hb5.mono hb3'.size))).mono (R' := fun e w6 => e = .returned (.tuple #[.int .i64 0, .bool false]) ∧ Below wr.heap.size wr w6) fun e w6 ⟨p, q⟩ => ⟨by rw [p, hf3]; rfl, hb5.trans (q.mono hb5.size)⟩)
      have hcv := CV.out wr (Below.refl _ _)
      have hp2 : ¬ (9223372036854775807 < x.size + (ByteArray.mk #[32]).size) := by
        have h1 : ByteArray.size ⟨#[32]⟩ = 1 := rfl
        omega
      have hp3 : ¬ (9223372036854775807 < (ByteArray.mk #[45]).size + x.size) := by
        have h1 : ByteArray.size ⟨#[45]⟩ = 1 := rfl
        omega
      clear hf1 hf2 hf3 hO hL hlow hll hB AW RS NA FI
      go_wp2_with (first
        | (go_at_call 23; (with_reducible refine (F1.out _ (by first | assumption | exact Below.refl _ _)).mono ?_); rintro e w5 ⟨rfl, hb5⟩; have hcv5 := CV.out _ hb5)
        | (go_at_call 23; (with_reducible refine (F2.out _ (by assumption)).mono ?_); rintro e w6 ⟨rfl, hb6⟩; have hcv6 := CV.out _ hb6)
        | (go_at_call 23; (with_reducible refine (F3.out _ (by assumption)).mono ?_); rintro e w7 ⟨rfl, hb7⟩))
      go_ret
      exact ⟨rfl, hb3'.trans (hb7.mono hb3'.size)⟩
end Go.Proofs.YtaeaknpkjgacdaaDoor
