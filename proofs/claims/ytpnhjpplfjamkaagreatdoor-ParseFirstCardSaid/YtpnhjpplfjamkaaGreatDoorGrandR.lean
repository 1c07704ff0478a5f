/-
  Package grand: Len, Regular, All and its iterator. Package grand: Name. The document's List, Name and Find of layer 5; the statements' own rest.
-/
import Derived.Test.YtpnhjpplfjamkaaGreatDoorETags
import Derived.OwnWalkIn
import Derived.OneCell
import Derived.TacticsInMore
import Derived.LoopNIn
import Derived.LoopIn
import Derived.RangeFuncKeeps
import Derived.Shelf.Abstract
import Derived.IntWalk
/-! Package grand: Len, Regular, All and its iterator. -/
namespace Go.Proofs.YtpnhjpplfjamkaaGreatDoor
open Go Go.RowKit

attribute [local go_sem] Oper.semAt_some

/-- All, with their numbers. -/
def gAll : List (Nat × ByteArray) := (List.range 26).map fun k => (k, nameG k)
theorem gAll_len : gAll.length = 26 := by simp [gAll]
theorem gAll_take (k : Nat) (hk : k < 26) : gAll.take (k + 1) = gAll.take k ++ [(k, nameG k)] := by
  rw [List.take_add_one]
  congr 1
  simp [gAll, hk]
theorem gAll_prefix (k : Nat) : gAll.take k <+: gAll := List.take_prefix _ _
theorem index_tag (k : Nat) (hk : k < 26) (w : World) : (Instr.index 104 (.agg gC.toArray) (.int .i64 (k : Int))).run Tryz.prog w = .ok (.agg #[.string (nameG k), .bool (regG k)]) w := by
  have h : k = 0 ∨ k = 1 ∨ k = 2 ∨ k = 3 ∨ k = 4 ∨ k = 5 ∨ k = 6 ∨ k = 7 ∨ k = 8 ∨ k = 9 ∨ k = 10 ∨ k = 11 ∨ k = 12 ∨ k = 13 ∨ k = 14 ∨ k = 15 ∨ k = 16 ∨ k = 17 ∨ k = 18 ∨ k = 19 ∨ k = 20 ∨ k = 21 ∨ k = 22 ∨ k = 23 ∨ k = 24 ∨ k = 25 := by omega
  rcases h with rfl | rfl | rfl | rfl | rfl | rfl | rfl | rfl | rfl | rfl | rfl | rfl | rfl | rfl | rfl | rfl | rfl | rfl | rfl | rfl | rfl | rfl | rfl | rfl | rfl | rfl <;> (show _ = _; kernel_rfl)

theorem wpListIn_load_tags {F : Fence} {n : Nat} {w : World} {ops : Array Oper} {rest : List Oper} {o : Oper} {a : Act} {Q : Exit → Act → World → Prop}
    (hg : o.guard = none) (hop : o.op = .load 104 (.global 0)) (h : GL w) {gc : Array Value} (hgc : gC.toArray = gc)
    (hK : wpListIn F n Tryz.prog ops Q rest (a.put o.dst (.agg gc)) w) : wpListIn F n Tryz.prog ops Q (o :: rest) a w := by
  refine wpListIn_plain hg fun K hK' => ?_
  unfold Oper.wpIn
  refine ⟨?_, ?_⟩
  · simp [Oper.about, hop]
  · rw [Oper.semAt_plain F _ _ (by rw [hop]; intro c hc'; cases hc')]
    have he : a.eval (.global 0) = .pointer (some ⟨0, 0, none⟩) := rfl
    simp only [execOp, hop, he, Sem.run_bind, h.load, Result.andThen]
    rw [hgc]
    exact hK' _ _ hK

set_option maxRecDepth 100000 in
set_option maxHeartbeats 4000000 in
theorem all_in (n l hi : Nat) (q : Nat → Prop) (fr : Obj → Bool) (B0 : Nat) (J Jx : List (Nat × ByteArray) → World → Prop) (hJ : OwnFrom B0 J)
    (hY : ∀ pre (x : Nat × ByteArray) W, J pre W → pre ++ [x] <+: gAll → YieldAt Fence.wide (n - 1) Tryz.prog l #[.int .i64 x.1, .string x.2] W fun e W' =>
      (e = .returned (.bool true) ∧ J (pre ++ [x]) W' ∧ KeepQ q hi fr W W') ∨ (e = .returned (.bool false) ∧ Jx (pre ++ [x]) W' ∧ KeepQ q hi fr W W'))
    (W : World) (hg : GL W) (h0 : J [] W) :
    CallsIn Fence.wide n Tryz.prog 80 #[.func (.yield l) #[] #[]] W fun e W' => (∃ v, e = .returned v) ∧
      ((∃ ys, ys = gAll ∧ J ys W') ∨ (∃ pre, pre <+: gAll ∧ Jx pre W')) := by
  have HG := Lib.hid hg
  clear hg
  refine callsIn_of_wp Tryz.func80 rfl trivial ?_ rfl
  simp only [Tryz.ntmps80, List.size_toArray, List.length_cons, List.length_nil, Nat.reduceAdd, Nat.reduceSub, Array.replicate_succ, Array.replicate_zero, List.push_toArray, List.append_toArray, List.nil_append, List.cons_append]
  have hidx := index_tag
  obtain ⟨gc, hgc⟩ : ∃ g, gC.toArray = g := ⟨_, rfl⟩
  rw [hgc] at hidx
  have HGC := Lib.hid hgc
  clear hgc
  gi_wp2_with (refine wpListIn_load_tags rfl rfl HG.out HGC.out ?_)
  clear HG HGC
  gi_loopw [5] (fun x wr => ∃ k : Nat, x = .int .i64 (k : Int) ∧ k ≤ 26 ∧ J (gAll.take k) wr) (fun x _ => 27 - (intOf x).toNat)
  case atStart => exact ⟨0, rfl, Nat.zero_le _, h0⟩
  case round =>
    obtain ⟨k, rfl, hk, hJs⟩ := hrel
    by_cases hlt : k < 26
    · have hlt' : (k : Int) < 26 := by omega
      have hk0 : (0 : Int) ≤ (k : Int) := by omega
      have hi := hidx k hlt
      have hp := gAll_take k hlt
      have hJ1 := hJ.alloc (.cells #[.string (nameG k), .bool (regG k)] 103) hJs
      have hpre : gAll.take k ++ [(k, nameG k)] <+: gAll := by rw [← hp]; exact gAll_prefix _
      obtain ⟨fn, tmps, assign, body, hy, hR⟩ := hY _ (k, nameG k) _ hJ1 hpre
      have HP := Lib.hid hp
      clear hp hJ1
      gi_wp2_with fail
      refine ⟨fun h => (by simp [Fence.wide] at h), ?_⟩
      refine hR.mono ?_
      rintro e W3 (⟨rfl, hJ3, hk3⟩ | ⟨rfl, hJx3, hk3⟩)
      · gi_wp2
        go_roundw
        case rel => exact ⟨k + 1, by go_num, by omega, by rw [HP.out]; exact hJ3⟩
        case measure => simp [intOf]; omega
      · gi_wp2
        refine bodyPost_ret (results_none rfl _ _ _) rfl ?_
        exact ⟨⟨_, rfl⟩, .inr ⟨_, hpre, hJx3⟩⟩
    · obtain rfl : k = 26 := by omega
      gi_wp2
      go_end0
      exact ⟨⟨_, rfl⟩, .inl ⟨_, rfl, by rwa [List.take_of_length_le (by rw [gAll_len]; exact Nat.le_refl _)] at hJs⟩⟩

theorem all_seq {fr : Obj → Bool} {q : Nat → Prop} {w : World} (hg : GL w) :
    SeqQ Tryz.prog 80 #[] (fun x : Nat × ByteArray => #[.int .i64 x.1, .string x.2]) q fr (fun ys => ys = gAll) (fun pre => pre <+: gAll) w := fun n l J Jx W hW hJ _ hY h0 =>
  all_in n l W.heap.size q fr _ J Jx hJ hY W (hg.below hW hg.size) h0
end Go.Proofs.YtpnhjpplfjamkaaGreatDoor

/-! Package grand: Name. -/
namespace Go.Proofs.YtpnhjpplfjamkaaGreatDoor
open Go Go.RowKit

attribute [local go_sem] Oper.semAt_some

theorem ownFrom_below {β : Type} {B B0 : Nat} {W0 : World} (hB : B0 ≤ B) (hs0 : B0 ≤ W0.heap.size) : OwnFrom B (fun (_ : β) W => Below B0 W0 W) :=
  fun _ _ _ _ hs hg hr => hs.grown hg (Nat.le_trans hs0 hs.size) (fun r e => by have := (hr r e).1; omega)

end Go.Proofs.YtpnhjpplfjamkaaGreatDoor

/-! The document's List, Name and Find of layer 5; the statements' own rest. -/
namespace Go.Proofs.YtpnhjpplfjamkaaGreatDoor
open Go Go.RowKit

/-- The document's list lies in block b. -/
def LG (b : Nat) (W : World) : Prop := ∀ k, k < 26 → W.cell? ⟨b, k, none⟩ = some (.string (starG k))
theorem LG.below {b B : Nat} {w w' : World} (h : LG b w) (hb : Below B w w') (hB : b < B) : LG b w' := fun k hk => (hb.cell (p := ⟨b, k, none⟩) hB).trans (h k hk)
theorem gS_at (k : Nat) (hk : k < 26) : (gS.map Value.string)[k]? = some (.string (starG k)) := by
  rw [List.getElem?_map]
  unfold starG
  have : gS.length = 26 := rfl
  rw [List.getElem?_eq_getElem (by omega), List.getD_eq_getElem?_getD, List.getElem?_eq_getElem (by omega)]
  rfl

set_option maxRecDepth 100000 in
theorem list_any (w : World) : Calls Tryz.prog 8 #[] w fun e w' => e = .returned (.slice (some ⟨w.heap.size, 0, none⟩) 26 26) ∧ LG w.heap.size w' ∧ Below w.heap.size w w' ∧ w.heap.size < w'.heap.size := by
  have HL : ∀ W : World, LG W.heap.size (W.alloc (.cells (gS.map Value.string).toArray 9)) := fun W k hk => by
    rw [World.cell?, World.alloc_heap_new]
    simpa using gS_at k hk
  have HL2 := Lib.hid HL
  clear HL
  go_enter Tryz.func8, Tryz.ntmps8
  go_wp2
  go_ret
  exact ⟨rfl, HL2.out w, (Below.refl _ w).alloc (Nat.le_refl _) _, by simp⟩

set_option maxRecDepth 100000 in
theorem name5_any (k : Nat) (hk : k < 26) (w : World) : Calls Tryz.prog 9 #[.string (starG k)] w fun e w' => e = .returned (.string (nameG k)) ∧ w = w' := by
  obtain ⟨h1, h2⟩ := star_size k hk
  have hr := star_reg k hk
  have hn := star_not k hk
  obtain ⟨s, hs⟩ : ∃ s, starG k = s := ⟨_, rfl⟩
  obtain ⟨t, ht⟩ : ∃ t, nameG k = t := ⟨_, rfl⟩
  rw [hs] at h1 h2 hr hn ⊢
  rw [ht] at hr hn ⊢
  clear hs ht
  obtain ⟨m, hm⟩ : ∃ m, s.size - 1 = m := ⟨_, rfl⟩
  rw [hm] at hr hn
  have hmi : (s.size : Int) - 1 = (m : Int) := by omega
  have hml : m < s.size := by omega
  have hm0 : (0 : Int) ≤ (m : Int) := by omega
  have hm1 : (m : Int) ≤ (s.size : Int) := by omega
  have hg : s.data[m]? = some s[m] := Array.getElem?_eq_getElem hml
  rw [hg] at hr hn
  cases hreg : regG k
  · obtain ⟨h3, rfl⟩ := hn hreg
    have h4 : ((s[m].toNat : Int) == 42) = false := by
      rw [beq_eq_false_iff_ne]
      intro h
      apply h3
      congr 1
      exact UInt8.toNat_inj.1 (by show s[m].toNat = 42; omega)
    clear hr hn h3 hreg hg
    go_enter Tryz.func9, Tryz.ntmps9
    go_wp2
    go_ret
    exact ⟨rfl, rfl⟩
  · obtain ⟨h3, rfl⟩ := hr hreg
    have h5 : s[m] = 42 := Option.some.inj h3
    have h4 : ((s[m].toNat : Int) == 42) = true := by rw [h5]; rfl
    clear hr hn h3 hreg hg h5
    go_enter Tryz.func9, Tryz.ntmps9
    go_wp2
    go_ret
    exact ⟨rfl, rfl⟩

theorem texts_ne {p q : ByteArray} (h : ¬ p = q) : (p.toList == q.toList) = false := by
  rw [beq_eq_false_iff_ne]
  intro e
  apply h
  rw [ByteArray.toList_eq, ByteArray.toList_eq] at e
  exact ByteArray.ext (Array.toList_inj.1 e)
/-- The document's number of a text. -/
def numV (s : ByteArray) : Int := match findV s with
  | some k => (k : Int)
  | none => -1
theorem numV_some {s : ByteArray} {k : Nat} (h : findV s = some k) : numV s = (k : Int) := by unfold numV; rw [h]
theorem numV_none {s : ByteArray} (h : findV s = none) : numV s = -1 := by unfold numV; rw [h]
theorem findV_of {s : ByteArray} (h : ∀ k, k < 26 → lowS s ≠ nameG k) : findV s = none := by
  cases hf : findV s with
  | none => rfl
  | some k => exact (h k (findV_lt hf) ((findV_iff s k (findV_lt hf)).1 hf)).elim

set_option maxRecDepth 100000 in
set_option maxHeartbeats 1000000 in
theorem find5_big (s : ByteArray) (w : World) (hs : s.size ≤ 140737488351232) :
    Calls Tryz.prog 43 #[.string s] w fun e w' => e = .returned (.int .i64 (numV s)) ∧ Below w.heap.size w w' := by
  obtain ⟨x, hx⟩ : ∃ x, lowS s = x := ⟨_, rfl⟩
  have LI := Lib.hid (list_any w)
  have LO := Lib.hid (fun w5 => (lower_ref s w5 (by omega)).mono (R' := fun e w6 => e = .returned (.string x) ∧ Below w5.heap.size w5 w6) fun e w6 ⟨p, q⟩ => ⟨by rw [p, hx], q⟩)
  have HS := Lib.hid (fun k (hk : k < 26) (he : x = nameG k) => numV_some ((findV_iff s k hk).2 (hx.trans he)))
  have HN := Lib.hid (fun (h : ∀ k, k < 26 → x ≠ nameG k) => numV_none (findV_of (s := s) (fun k hk => by rw [hx]; exact h k hk)))
  clear hs hx
  generalize numV s = z at *
  go_enter Tryz.func43, Tryz.ntmps43
  go_wp2_with (go_at_call 8; refine LI.out.mono ?_; rintro e w1 ⟨rfl, hl1, hb1, hz1⟩)
  go_loopw [4] (fun i wr => ∃ k : Nat, k ≤ 26 ∧ i = .int .i64 (k : Int) ∧ (∀ j, j < k → x ≠ nameG j) ∧ Below w.heap.size w wr ∧ LG w.heap.size wr ∧ w.heap.size < wr.heap.size) (fun i _ => 27 - (intOf i).toNat)
  case atStart => exact ⟨0, Nat.zero_le _, rfl, fun j hj => by omega, hb1, hl1, hz1⟩
  case round =>
    obtain ⟨k, hk, rfl, hne, hB, hL, hz⟩ := hrel
    by_cases hlt : k < 26
    · have h0 : (0 : Int) ≤ (k : Int) := by omega
      have h1 : (k : Int) < 26 := by omega
      have hc := hL k hlt
      have LO2 := Lib.hid (fun w5 (hb5 : Below wr.heap.size wr w5) => (LO.out w5).mono (R' := fun e w6 => e = .returned (.string x) ∧ Below wr.heap.size wr w6 ∧ w6.cell? ⟨w.heap.size, k, none⟩ = some (.string (starG k))) fun e w6 ⟨p, q⟩ => ⟨p, hb5.trans (q.mono hb5.size), ((hb5.trans (q.mono hb5.size)).cell (p := ⟨w.heap.size, k, none⟩) hz).trans hc⟩)
      have N5 := Lib.hid (fun w5 (hb5 : Below wr.heap.size wr w5) => (name5_any k hlt w5).mono (R' := fun e w6 => e = .returned (.string (nameG k)) ∧ Below wr.heap.size wr w6 ∧ w6.cell? ⟨w.heap.size, k, none⟩ = some (.string (starG k))) fun e w6 ⟨p, q⟩ => ⟨p, q ▸ hb5, q ▸ ((hb5.cell (p := ⟨w.heap.size, k, none⟩) hz).trans hc)⟩)
      have HL := Lib.hid hL
      have HNE := Lib.hid hne
      have HSk := Lib.hid (HS.out k hlt)
      have HB := Lib.hid hB
      have hB0 := hB.size
      clear hL hne hB LO HS HN LI
      generalize starG k = st at *
      obtain ⟨t, ht⟩ : ∃ t, nameG k = t := ⟨_, rfl⟩
      have HT := Lib.hid ht
      rw [ht] at N5 HSk
      clear ht
      have hd : Below wr.heap.size wr wr.drew := Below.drew (Below.refl _ _)
      have hc1 : wr.drew.cell? ⟨w.heap.size, k, none⟩ = some (.string st) := hc
      by_cases he : x = t
      · subst he
        go_wp2_with fail
        go_region_held3 (fun w' => Below wr.heap.size wr w' ∧ w'.cell? ⟨w.heap.size, k, none⟩ = some (.string st))
          (first | exact ⟨by assumption, by assumption⟩)
          (first | (go_at_call 44; (with_reducible refine (LO2.out _ (by assumption)).mono ?_); rintro e w5 ⟨rfl, hb5, hc5⟩) | (go_at_call 9; (with_reducible refine (N5.out _ (by assumption)).mono ?_); rintro e w5 ⟨rfl, hb5, hc5⟩))
        go_wp2
        go_ret
        exact ⟨ret_int (HSk.out trivial).symm, HB.out.trans (Below.mono (by assumption) hB0)⟩
      · have he1 := texts_ne he
        go_wp2_with fail
        go_region_held3 (fun w' => Below wr.heap.size wr w' ∧ w'.cell? ⟨w.heap.size, k, none⟩ = some (.string st))
          (first | exact ⟨by assumption, by assumption⟩)
          (first | (go_at_call 44; (with_reducible refine (LO2.out _ (by assumption)).mono ?_); rintro e w5 ⟨rfl, hb5, hc5⟩) | (go_at_call 9; (with_reducible refine (N5.out _ (by assumption)).mono ?_); rintro e w5 ⟨rfl, hb5, hc5⟩))
        go_wp2
        have hB2 := HB.out.trans (Below.mono (by assumption) hB0)
        go_roundw
        case rel => exact ⟨k + 1, by omega, by go_num, fun j hj => by
          rcases Nat.lt_or_eq_of_le (Nat.le_of_lt_succ hj) with h | h
          · exact HNE.out j h
          · rw [h, HT.out]; exact he, hB2, HL.out.below (by assumption) hz, Nat.lt_of_lt_of_le hz (Below.size (by assumption))⟩
        case measure => simp [intOf]; omega
    · obtain rfl : k = 26 := by omega
      have HE := Lib.hid (HN.out hne)
      go_wp2
      go_ret
      exact ⟨ret_int HE.out.symm, hB⟩
theorem find5_any (s : ByteArray) (w : World) (hs : s.size ≤ 100) :
    Calls Tryz.prog 43 #[.string s] w fun e w' => e = .returned (.int .i64 (numV s)) ∧ Below w.heap.size w w' := find5_big s w (by omega)
end Go.Proofs.YtpnhjpplfjamkaaGreatDoor
