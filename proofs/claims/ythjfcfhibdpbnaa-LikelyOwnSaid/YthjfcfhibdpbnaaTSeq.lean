/-
  Package likely: the ladder, told one row by one. (Printed by wip/gen_tseq.py.)
-/
import Derived.Test.YthjfcfhibdpbnaaTLad
import Derived.OrdersIn
import Derived.LoopIn
import Derived.LoopNIn
import Derived.TacticsInMore
import Derived.Stop.RegionWithIn
import Derived.OwnWalkIn
namespace Go.Proofs.Ythjfcfhibdpbnaa
open Go Go.RowKit

attribute [local go_sem] Oper.semAt_some

/-- What the iterator looks at: its own two boxes. -/
structure LadAt (R S : Nat) (l s r : ByteArray) (w : World) : Prop where
  r : w.heap[R]? = some (.cells #[.string l, .string s, .string r, .string l, .string ⟨#[]⟩, .string r, .string l, .string s, .string ⟨#[]⟩, .string l, .string ⟨#[]⟩, .string ⟨#[]⟩, .string undT, .string s, .string ⟨#[]⟩] 98 (0, 0))
  s : w.heap[S]? = some (.cells #[.int .i64 (sizeT l s : Int)] 3 (0, 0))
theorem LadAt.below {R S : Nat} {l s r : ByteArray} {w w' : World} (h : LadAt R S l s r w) (hb : Below w.heap.size w w') : LadAt R S l s r w' :=
  ⟨(hb.block _ (lt_blockT h.r)).trans h.r, (hb.block _ (lt_blockT h.s)).trans h.s⟩
theorem LadAt.keep {R S hi : Nat} {l s r : ByteArray} {q : Nat → Prop} {fr : Obj → Bool} {w w' : World} (h : LadAt R S l s r w) (hb : KeepQ q hi fr w w') (hq : q R ∧ q S) : LadAt R S l s r w' :=
  ⟨hb.blk _ _ h.r (.inl hq.1), hb.blk _ _ h.s (.inl hq.2)⟩
theorem LadAt.arr {R S : Nat} {l s r : ByteArray} {w : World} (h : LadAt R S l s r w) : ArrL w R 0 (rungsT l s r) := by
  intro i x hx
  have hc := fun i v (hv : _) => cell_rowT i (v := v) h.r hv
  match i, hx with
  | 0, hx => simp only [rungsT, List.getElem?_cons_zero, Option.some.injEq] at hx; subst hx; exact ⟨hc 0 _ rfl, hc 1 _ rfl, hc 2 _ rfl⟩
  | 1, hx => simp only [rungsT, List.getElem?_cons_succ, List.getElem?_cons_zero, Option.some.injEq] at hx; subst hx; exact ⟨hc 3 _ rfl, hc 4 _ rfl, hc 5 _ rfl⟩
  | 2, hx => simp only [rungsT, List.getElem?_cons_succ, List.getElem?_cons_zero, Option.some.injEq] at hx; subst hx; exact ⟨hc 6 _ rfl, hc 7 _ rfl, hc 8 _ rfl⟩
  | 3, hx => simp only [rungsT, List.getElem?_cons_succ, List.getElem?_cons_zero, Option.some.injEq] at hx; subst hx; exact ⟨hc 9 _ rfl, hc 10 _ rfl, hc 11 _ rfl⟩
  | 4, hx => simp only [rungsT, List.getElem?_cons_succ, List.getElem?_cons_zero, Option.some.injEq] at hx; subst hx; exact ⟨hc 12 _ rfl, hc 13 _ rfl, hc 14 _ rfl⟩
  | n + 5, hx => simp [rungsT] at hx
theorem below_undrewT {W W' : World} (h : Below W.drew.heap.size W.drew W') : Below W.heap.size W W' := ⟨h.os, h.tape, h.output, h.size, h.block⟩
theorem ends_noneT {P : Program} {fn : Func} {R : Ending → World → Prop} {a : Act} {w : World} (hr : fn.results = #[]) (hd : a.defers = []) (hR : R (.returned (.tuple #[])) w) : bodyPost P fn R .normal a w := by
  refine ⟨hd, .tuple #[], ?_, hR⟩
  simp [results, hr]
def encK (x : KT) : Array Value := #[.agg #[.string x.1, .string x.2.1, .string x.2.2]]

set_option maxRecDepth 100000 in
set_option maxHeartbeats 2000000 in
theorem lad_in (n l R S hi : Nat) (q : Nat → Prop) (fr : Obj → Bool) (tl ts tr : ByteArray) (hq : q R ∧ q S) (B0 : Nat) (J Jx : List KT → World → Prop) (hJ : OwnFrom B0 J)
    (hY : ∀ pre (x : KT) W1, J pre W1 → pre ++ [x] <+: ladT tl ts tr → YieldAt Fence.wide (n - 1) Try.prog l (encK x) W1 fun e W' =>
      (e = .returned (.bool true) ∧ J (pre ++ [x]) W' ∧ KeepQ q hi fr W1 W') ∨ (e = .returned (.bool false) ∧ Jx (pre ++ [x]) W' ∧ KeepQ q hi fr W1 W'))
    (w : World) (h : LadAt R S tl ts tr w) (h0 : J [] w) :
    CallsIn Fence.wide n Try.prog 52 #[.func (.yield l) #[] #[], .pointer (some ⟨R, 0, none⟩), .pointer (some ⟨S, 0, none⟩)] w fun e W' => (∃ v, e = .returned v) ∧
      ((∃ ys, ys = ladT tl ts tr ∧ J ys W') ∨ (∃ pre, pre <+: ladT tl ts tr ∧ Jx pre W')) := by
  refine callsIn_of_wp Try.func52 rfl trivial ?_ rfl
  simp only [Try.ntmps52, List.size_toArray, List.length_cons, List.length_nil, Nat.reduceAdd, Nat.reduceSub, Array.replicate_succ, Array.replicate_zero, List.push_toArray, List.append_toArray, List.nil_append, List.cons_append]
  have d2 := cell_of_one h.s
  have HA := Lib.hid h
  have HSZ := sizeT_le tl ts
  have HLT := Lib.hid (show ddT ((rungsT tl ts tr).take (sizeT tl ts)) = ladT tl ts tr from rfl)
  clear h
  generalize sizeT tl ts = sz at *
  have a0 : (0 : Int) ≤ (sz : Int) := by omega
  have a5 : (sz : Int) ≤ 5 := by omega
  gi_wp2_with fail
  clear d2
  gi_loopw [9] (fun x wr => ∃ i : Nat, x = .int .i64 (i : Int) ∧ i ≤ sz ∧ Hid (LadAt R S tl ts tr wr) ∧ J (ddT ((rungsT tl ts tr).take i)) wr) (fun x _ => sz - (intOf x).toNat)
  case atStart => exact ⟨0, rfl, Nat.zero_le _, HA, h0⟩
  case round =>
    obtain ⟨i, rfl, hil, HAR, hJs⟩ := hrel
    have hsl : (rungsT tl ts tr).length = 5 := rfl
    by_cases hlt : i < sz
    · have i0 : (0 : Int) ≤ (i : Int) := by omega
      have i1 : (i : Int) < (sz : Int) := by omega
      have i5 : (i : Int) ≤ 5 := by omega
      obtain ⟨x, hx⟩ : ∃ x, (rungsT tl ts tr)[i]? = some x := ⟨_, List.getElem?_eq_getElem (by omega)⟩
      obtain ⟨c0, c1, c2⟩ := HAR.out.arr i x hx
      rw [Nat.zero_add] at c0 c1 c2
      obtain ⟨W5, hW5⟩ : ∃ W5, wr.alloc (.cells #[.string x.1, .string x.2.1, .string x.2.2] 62) = W5 := ⟨_, rfl⟩
      have hb5 : Below wr.heap.size wr W5 := by rw [← hW5]; exact (Below.refl _ wr).alloc (Nat.le_refl _) _
      have hX5 : W5.heap[wr.heap.size]? = some (.cells #[.string x.1, .string x.2.1, .string x.2.2] 62 (0, 0)) := by rw [← hW5]; exact World.alloc_heap_new wr _
      have HJ5 := Lib.hid (hJ _ _ _ none hJs (grown_of_below hb5) (fun r e => by cases e))
      have HA5 := Lib.hid (HAR.out.below hb5)
      have hl : ((rungsT tl ts tr).take i).length = i := by rw [List.length_take, hsl]; omega
      have hco := contains_t R 5 ((rungsT tl ts tr).take i) x.1 x.2.1 x.2.2 W5.drew ((HA5.out.arr (w := W5)).take i) (by rw [hl]; omega)
      rw [hl] at hco
      have HBX := Lib.hid (fun (w5 : World) (hb : Below W5.drew.heap.size W5.drew w5) => cells3T ((hb.block wr.heap.size (show wr.heap.size < W5.heap.size from lt_blockT hX5)).trans (show W5.drew.heap[wr.heap.size]? = _ from hX5)))
      obtain ⟨x0, x1, x2⟩ := cells3T (show W5.drew.heap[wr.heap.size]? = some (.cells #[.string x.1, .string x.2.1, .string x.2.2] 62 (0, 0)) from hX5)
      have HNX := Lib.hid (take_nextT hx)
      have hdd := ddT_snoc ((rungsT tl ts tr).take i) x
      rw [← HNX.out] at hdd
      have HW5 := Lib.hid hW5
      obtain ⟨x1', x2', x3'⟩ := x
      dsimp only at *
      cases hd : hasD ((rungsT tl ts tr).take i) (x1', x2', x3') with
      | true =>
        rw [hd] at hco
        have HCO := Lib.hid hco
        have HDD := Lib.hid (show ddT ((rungsT tl ts tr).take (i + 1)) = ddT ((rungsT tl ts tr).take i) by
          rw [hdd]
          unfold addD
          rw [if_pos ((hasD_iff _ _).2 ((mem_ddT _ _).2 ((hasD_iff _ _).1 hd)))])
        clear hco hd hdd hx hb5 hX5 hW5 hJs hl
        gi_wp2_with fail
        rw [HW5.out]
        refine wpIn_region_any (by kernel_rfl) ?_
        change wpAnyIn _ _ _ _ _ _ _ _ _ (World.drew _)
        refine wpAnyIn_take (i := 0) (v := .int .i64 (i : Int)) rfl rfl (by kernel_rfl) (by kernel_rfl) (by kernel_rfl) (fun _ _ _ h => h) ⟨Or.inl ⟨by rfl, fun w => by go_simp⟩, fun _ => rfl⟩ ?_
        refine wpAnyIn_take (i := 1) (v := .slice (some ⟨R, 0, none⟩) i 5) rfl rfl (by kernel_rfl) (by kernel_rfl) (by kernel_rfl) (fun _ _ _ h => h) ⟨Or.inl ⟨by rfl, fun w => by go_simp⟩, fun _ => rfl⟩ ?_
        refine wpAnyIn_ready (rs := [2]) (by kernel_rfl) (by simp) ?_
        refine AllReadyIn.cons rfl (fun K hK => ?_) AllReadyIn.nil
        go_simp
        refine hK _ _ ?_
        clear hK K
        refine wpAnyIn_ready (rs := [3]) (by kernel_rfl) (by simp) ?_
        refine AllReadyIn.cons rfl (fun K hK => ?_) AllReadyIn.nil
        go_simp
        refine ⟨trivial, fun h => (by simp [Fence.wide] at h), (callsIn_wide.2 HCO.out).mono ?_⟩
        rintro e w5 ⟨rfl, hb5⟩
        refine hK _ _ ?_
        clear hK K
        refine wpAnyIn_take (i := 4) (v := .bool false) rfl rfl (by kernel_rfl) (by kernel_rfl) (by kernel_rfl) (fun _ _ _ h => h) ⟨Or.inl ⟨by rfl, fun w => by go_simp⟩, fun _ => rfl⟩ ?_
        refine wpAnyIn_take (i := 5) (v := .bool false) rfl rfl (by kernel_rfl) (by kernel_rfl) (by kernel_rfl) (fun _ _ _ h => h) ⟨Or.inl ⟨by rfl, fun w => by go_simp⟩, fun _ => rfl⟩ ?_
        refine wpAnyIn_take (i := 6) (v := undef) rfl rfl (by kernel_rfl) (by kernel_rfl) (by kernel_rfl) (fun _ _ _ h => h) ⟨Or.inr ⟨by rfl, rfl⟩, fun _ => rfl⟩ ?_
        refine wpAnyIn_take (i := 7) (v := undef) rfl rfl (by kernel_rfl) (by kernel_rfl) (by kernel_rfl) (fun _ _ _ h => h) ⟨Or.inr ⟨by rfl, rfl⟩, fun _ => rfl⟩ ?_
        refine wpAnyIn_ready (rs := [8]) (by kernel_rfl) (by simp) ?_
        refine AllReadyIn.cons rfl (fun K hK => ?_) AllReadyIn.nil
        go_simp
        first | refine hK _ _ ?_ | refine ⟨fun _ _ => trivial, hK _ _ ?_⟩
        clear hK K
        refine wpAnyIn_take (i := 9) (v := undef) rfl rfl (by kernel_rfl) (by kernel_rfl) (by kernel_rfl) (fun _ _ _ h => h) ⟨Or.inr ⟨by rfl, rfl⟩, fun _ => rfl⟩ ?_
        refine wpAnyIn_ready (rs := [10]) (by kernel_rfl) (by simp) ?_
        refine AllReadyIn.cons rfl (fun K hK => ?_) AllReadyIn.nil
        go_simp
        refine hK _ _ ?_
        clear hK K
        refine wpAnyIn_done (by kernel_rfl) ?_ _
        gi_wp2_with fail
        go_roundw
        case rel => exact ⟨i + 1, by go_num, by omega, Lib.hid (HA5.out.below (w' := w5) (below_undrewT hb5)), by rw [HDD.out]; exact hJ _ _ _ none HJ5.out (grown_of_below (A := W5) (below_undrewT hb5)) (fun r e => by cases e)⟩
        case measure => simp [intOf]; omega
      | false =>
        rw [hd] at hco
        have HCO := Lib.hid hco
        have HDD := Lib.hid (show ddT ((rungsT tl ts tr).take (i + 1)) = ddT ((rungsT tl ts tr).take i) ++ [(x1', x2', x3')] by
          rw [hdd]
          unfold addD
          rw [if_neg (fun h => by rw [(hasD_iff _ _).2 ((mem_ddT _ _).1 ((hasD_iff _ _).1 h))] at hd; cases hd)])
        have hpf : ddT ((rungsT tl ts tr).take i) ++ [(x1', x2', x3')] <+: ladT tl ts tr := by
          rw [← HDD.out, ← HLT.out]
          have := ddT_prefix ((rungsT tl ts tr).take sz) (i + 1)
          rwa [List.take_take, show min (i + 1) sz = i + 1 by omega] at this
        have HPF := Lib.hid hpf
        have HRY := Lib.hid (fun (w5 : World) (hb : Below W5.drew.heap.size W5.drew w5) => (hY _ (x1', x2', x3') w5 (hJ _ _ _ none HJ5.out (grown_of_below (A := W5) (below_undrewT hb)) (fun r e => by cases e)) hpf).mono (R' := fun e W' => ∃ z : Bool, e = .returned (.bool z) ∧ (z = true → J (ddT ((rungsT tl ts tr).take (i + 1))) W') ∧ (z = false → Jx (ddT ((rungsT tl ts tr).take (i + 1))) W') ∧ KeepQ q hi fr w5 W') (by
            intro e W' h
            rcases h with ⟨rfl, h1, h2⟩ | ⟨rfl, h1, h2⟩
            · exact ⟨true, rfl, fun _ => by rw [HDD.out]; exact h1, (by intro e; cases e), h2⟩
            · exact ⟨false, rfl, (by intro e; cases e), fun _ => by rw [HDD.out]; exact h1, h2⟩))
        clear hco hd hdd hx hb5 hX5 hW5 hJs hl hpf
        gi_wp2_with fail
        rw [HW5.out]
        refine wpIn_region_any (by kernel_rfl) ?_
        change wpAnyIn _ _ _ _ _ _ _ _ _ (World.drew _)
        refine wpAnyIn_take (i := 0) (v := .int .i64 (i : Int)) rfl rfl (by kernel_rfl) (by kernel_rfl) (by kernel_rfl) (fun _ _ _ h => h) ⟨Or.inl ⟨by rfl, fun w => by go_simp⟩, fun _ => rfl⟩ ?_
        refine wpAnyIn_take (i := 1) (v := .slice (some ⟨R, 0, none⟩) i 5) rfl rfl (by kernel_rfl) (by kernel_rfl) (by kernel_rfl) (fun _ _ _ h => h) ⟨Or.inl ⟨by rfl, fun w => by go_simp⟩, fun _ => rfl⟩ ?_
        refine wpAnyIn_ready (rs := [2]) (by kernel_rfl) (by simp) ?_
        refine AllReadyIn.cons rfl (fun K hK => ?_) AllReadyIn.nil
        go_simp
        refine hK _ _ ?_
        clear hK K
        refine wpAnyIn_ready (rs := [3]) (by kernel_rfl) (by simp) ?_
        refine AllReadyIn.cons rfl (fun K hK => ?_) AllReadyIn.nil
        go_simp
        refine ⟨trivial, fun h => (by simp [Fence.wide] at h), (callsIn_wide.2 HCO.out).mono ?_⟩
        rintro e w5 ⟨rfl, hb5⟩
        refine hK _ _ ?_
        clear hK K
        refine wpAnyIn_take (i := 4) (v := .bool true) rfl rfl (by kernel_rfl) (by kernel_rfl) (by kernel_rfl) (fun _ _ _ h => h) ⟨Or.inl ⟨by rfl, fun w => by go_simp⟩, fun _ => rfl⟩ ?_
        refine wpAnyIn_take (i := 5) (v := .bool true) rfl rfl (by kernel_rfl) (by kernel_rfl) (by kernel_rfl) (fun _ _ _ h => h) ⟨Or.inl ⟨by rfl, fun w => by go_simp⟩, fun _ => rfl⟩ ?_
        refine wpAnyIn_take (i := 6) (v := .func (.yield l) #[] #[]) rfl rfl (by kernel_rfl) (by kernel_rfl) (by kernel_rfl) (fun _ _ _ h => h) ⟨Or.inl ⟨by rfl, fun w => by go_simp⟩, fun _ => rfl⟩ ?_
        obtain ⟨y0, y1, y2⟩ := HBX.out w5 hb5
        obtain ⟨fn, tm, asg, bd, hrun, hRD⟩ := HRY.out w5 hb5
        have HRD := Lib.hid hRD
        clear hRD
        unfold encK at hrun
        dsimp only at hrun
        refine wpAnyIn_ready (rs := [7]) (by kernel_rfl) (by simp) ?_
        refine AllReadyIn.cons rfl (fun K hK => ?_) AllReadyIn.nil
        go_simp
        refine hK _ _ ?_
        clear hK K
        refine wpAnyIn_ready (rs := [8]) (by kernel_rfl) (by simp) ?_
        refine AllReadyIn.cons rfl (fun K hK => ?_) AllReadyIn.nil
        go_simp
        refine ⟨fun h => (by simp [Fence.wide] at h), ?_⟩
        refine HRD.out.mono ?_
        rintro e W3 ⟨z, rfl, hz⟩
        refine hK _ _ ?_
        clear hK K
        refine wpAnyIn_ready (rs := [9]) (by kernel_rfl) (by simp) ?_
        refine AllReadyIn.cons rfl (fun K hK => ?_) AllReadyIn.nil
        go_simp
        refine hK _ _ ?_
        clear hK K
        refine wpAnyIn_ready (rs := [10]) (by kernel_rfl) (by simp) ?_
        refine AllReadyIn.cons rfl (fun K hK => ?_) AllReadyIn.nil
        go_simp
        refine hK _ _ ?_
        clear hK K
        refine wpAnyIn_done (by kernel_rfl) ?_ _
        cases z
        · have hx := hz.2.1 rfl
          gi_wp2_with fail
          refine bodyPost_ret (results_none rfl _ _ _) rfl ?_
          exact ⟨⟨_, rfl⟩, .inr ⟨_, by rw [HDD.out]; exact HPF.out, hx⟩⟩
        · have hx := hz.1 rfl
          have HA3 := Lib.hid ((HA5.out.below (w' := w5) (below_undrewT hb5)).keep hz.2.2 hq)
          clear hz
          gi_wp2_with fail
          go_roundw
          case rel => exact ⟨i + 1, by go_num, by omega, HA3, hx⟩
          case measure => simp [intOf]; omega
    · obtain rfl : i = sz := by omega
      have i1 : ¬ (i : Int) < (i : Int) := by omega
      have HJE := Lib.hid hJs
      clear hJs
      gi_wp2_with fail
      refine ends_noneT rfl rfl ?_
      refine ⟨⟨_, rfl⟩, .inl ?_⟩
      have := HJE.out
      rw [HLT.out] at this
      exact this

set_option maxRecDepth 100000 in
theorem lad_seq {fr : Obj → Bool} {R S : Nat} {l s r : ByteArray} {w : World} {q : Nat → Prop} (hq : q R ∧ q S) (h : LadAt R S l s r w) :
    SeqQ Try.prog 52 #[.pointer (some ⟨R, 0, none⟩), .pointer (some ⟨S, 0, none⟩)] encK q fr (fun ys => ys = ladT l s r) (fun pre => pre <+: ladT l s r) w := fun n lb J Jx W' hW hJ _ hY h0 =>
  lad_in n lb R S W'.heap.size q fr l s r hq _ J Jx hJ hY W' (h.below hW) h0
end Go.Proofs.Ythjfcfhibdpbnaa
