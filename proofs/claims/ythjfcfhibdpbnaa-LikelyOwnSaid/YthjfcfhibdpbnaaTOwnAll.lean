import Derived.Test.YthjfcfhibdpbnaaTSeq
import Derived.Test.YthjfcfhibdpbnaaTMax
import Derived.Test.YthjfcfhibdpbnaaYRights
import Derived.Test.YthjfcfhibdpbnaaYCode
import Derived.Test.YthjfcfhibdpbnaaTSeedA
import Derived.Test.YthjfcfhibdpbnaaZSeed
import Derived.Test.YthjfcfhibdpbnaaZMany
import Derived.Laws.AppendOwnNone
import Derived.Test.YthjfcfhibdpbnaaTFirst
import Derived.Deep.RegionHeld3
import Derived.Test.YthjfcfhibdpbnaaZMade
import Derived.Test.YthjfcfhibdpbnaaZArgs
import Derived.Test.YthjfcfhibdpbnaaRows
namespace Go.Proofs.Ythjfcfhibdpbnaa
open Go Go.RowKit

attribute [local go_sem] Oper.semAt_some

/-- What the iterator looks at: its box, and the one row. -/
structure ValAt (B G : Nat) (l s r : ByteArray) (w : World) : Prop where
  b : w.heap[B]? = some (.cells #[.slice (some ⟨G, 0, none⟩) 1 1] 74 (0, 0))
  g : w.heap[G]? = some (.cells #[.string l, .string s, .string r] 62 (0, 0))
theorem ValAt.below {B G : Nat} {l s r : ByteArray} {w w' : World} (h : ValAt B G l s r w) (hb : Below w.heap.size w w') : ValAt B G l s r w' :=
  ⟨(hb.block _ (lt_blockT h.b)).trans h.b, (hb.block _ (lt_blockT h.g)).trans h.g⟩
theorem makeFL (fn : Fn) (first cap : Array Value) (w : World) : (Instr.makeFunc fn first cap).run Try.prog w = .ok (.func fn first cap) w := rfl
set_option maxRecDepth 100000 in
theorem vals_make (ao : Option Addr) (n cap : Nat) (w : World) :
    Calls Try.prog 54 #[.slice ao n cap] w fun e w' => e = .returned (.func (.func 61) #[] #[.pointer (some ⟨w.heap.size, 0, none⟩)]) ∧ w.alloc (.cells #[.slice ao n cap] 74) = w' := by
  have hmf := makeFL
  go_enter Try.func54, Try.ntmps54
  go_wp2
  go_ret
  exact ⟨rfl, rfl⟩
set_option maxRecDepth 100000 in
set_option maxHeartbeats 4000000 in
theorem vals_in (n l B G hi : Nat) (q : Nat → Prop) (fr : Obj → Bool) (tl ts tr : ByteArray) (B0 : Nat) (J Jx : List KT → World → Prop) (hJ : OwnFrom B0 J)
    (hY : ∀ pre (x : KT) W1, J pre W1 → pre ++ [x] <+: [(tl, ts, tr)] → YieldAt Fence.wide (n - 1) Try.prog l (encK x) W1 fun e W' =>
      (e = .returned (.bool true) ∧ J (pre ++ [x]) W' ∧ KeepQ q hi fr W1 W') ∨ (e = .returned (.bool false) ∧ Jx (pre ++ [x]) W' ∧ KeepQ q hi fr W1 W'))
    (w : World) (h : ValAt B G tl ts tr w) (h0 : J [] w) :
    CallsIn Fence.wide n Try.prog 61 #[.func (.yield l) #[] #[], .pointer (some ⟨B, 0, none⟩)] w fun e W' => (∃ v, e = .returned v) ∧
      ((∃ ys, ys = [(tl, ts, tr)] ∧ J ys W') ∨ (∃ pre, pre <+: [(tl, ts, tr)] ∧ Jx pre W')) := by
  have HJ := Lib.hid hJ
  clear hJ
  refine callsIn_of_wp Try.func61 rfl trivial ?_ rfl
  simp only [Try.ntmps61, List.size_toArray, List.length_cons, List.length_nil, Nat.reduceAdd, Nat.reduceSub, Array.replicate_succ, Array.replicate_zero, List.push_toArray, List.append_toArray, List.nil_append, List.cons_append]
  have d1 := cell_of_one h.b
  have HV := Lib.hid h.g
  clear h
  gi_wp2_with fail
  gi_loopw [7] (fun x wr => ∃ k : Nat, x = .int .i64 (k : Int) ∧ ((k = 0 ∧ wr.heap[G]? = some (.cells #[.string tl, .string ts, .string tr] 62 (0, 0)) ∧ J [] wr) ∨ (k = 1 ∧ J [(tl, ts, tr)] wr))) (fun x _ => 1 + 1 - (intOf x).toNat)
  case atStart => exact ⟨0, rfl, .inl ⟨rfl, HV.out, h0⟩⟩
  case round =>
    obtain ⟨k, rfl, ⟨rfl, hg, hJs⟩ | ⟨rfl, hJs⟩⟩ := hrel
    · obtain ⟨c0, c1, c2⟩ := cells3T hg
      have hb5 : Below wr.heap.size wr (wr.alloc (.cells #[.string tl, .string ts, .string tr] 62)) := (Below.refl _ wr).alloc (Nat.le_refl _) _
      obtain ⟨fn, tmps, assign, body, hy, hR⟩ := hY [] (tl, ts, tr) (wr.alloc (.cells #[.string tl, .string ts, .string tr] 62)) (HJ.out _ _ _ none hJs (grown_of_below hb5) (fun r e => by cases e)) (List.prefix_refl _)
      unfold encK at hy
      dsimp only at hy
      clear hg hb5
      gi_wp2_with fail
      refine ⟨fun h => (by simp [Fence.wide] at h), ?_⟩
      refine hR.mono ?_
      rintro e W3 (⟨rfl, hJ3, hk3⟩ | ⟨rfl, hJx3, hk3⟩)
      · have HJ4 := Lib.hid hJ3
        clear hJ3 hk3
        gi_wp2
        go_roundw
        case rel => exact ⟨1, by go_num, .inr ⟨rfl, HJ4.out⟩⟩
        case measure => simp [intOf]
      · have HJ3 := Lib.hid hJx3
        clear hJx3 hk3
        gi_wp2
        refine bodyPost_ret (results_none rfl _ _ _) rfl ?_
        exact ⟨⟨_, rfl⟩, .inr ⟨_, List.prefix_refl _, HJ3.out⟩⟩
    · have HX := Lib.hid hJs
      clear hJs
      gi_wp2
      refine ends_noneT rfl rfl ?_
      exact ⟨⟨_, rfl⟩, .inl ⟨_, rfl, HX.out⟩⟩
theorem vals_seq {fr : Obj → Bool} {B G : Nat} {l s r : ByteArray} {w : World} {q : Nat → Prop} (h : ValAt B G l s r w) :
    SeqQ Try.prog 61 #[.pointer (some ⟨B, 0, none⟩)] encK q fr (fun ys => ys = [(l, s, r)]) (fun pre => pre <+: [(l, s, r)]) w := fun n lb J Jx W' hW hJ _ hY h0 =>
  vals_in n lb B G W'.heap.size q fr l s r _ J Jx hJ hY W' (h.below hW) h0
end Go.Proofs.Ythjfcfhibdpbnaa

namespace Go.Proofs.Ythjfcfhibdpbnaa
open Go Go.RowKit
attribute [local go_sem] Oper.semAt_some
theorem lkSizeT : (Try.prog.info? 61).map (·.size) = some 6 := by kernel_rfl
set_option maxRecDepth 100000 in
set_option maxHeartbeats 4000000 in
theorem find_any (a1 a3 a4 : Option Addr) (n1 c1 n3 c3 n4 c4 : Nat) (th de : Int) (lo : Option Addr) (lc : Nat) (L : List Lr) (l s r : ByteArray) (w : World) (hL : RowL w (.slice lo L.length lc) L) (hl : L.length ≤ 4000) (hS : RowS L) (hK : KST (l, s, r)) :
    Calls Try.prog 30 #[.agg #[.slice a1 n1 c1, .slice lo L.length lc, .slice a3 n3 c3, .slice a4 n4 c4, .int .i64 th, .int .i64 de], .string l, .string s, .string r] w fun e w' => e = .returned (.tuple #[lrV (firstY L [(l, s, r)]), .bool (firstB L [(l, s, r)])]) ∧ Below w.heap.size w w' := by
  obtain ⟨y, hy⟩ : ∃ y, firstY L [(l, s, r)] = y := ⟨_, rfl⟩
  obtain ⟨fb, hfb⟩ : ∃ b, firstB L [(l, s, r)] = b := ⟨_, rfl⟩
  obtain ⟨W1, hW1⟩ : ∃ W1, (w.alloc (.cells #[.slice a1 n1 c1, .slice lo L.length lc, .slice a3 n3 c3, .slice a4 n4 c4, .int .i64 th, .int .i64 de] 35)).alloc (.cells #[.string ⟨#[]⟩, .string ⟨#[]⟩, .string ⟨#[]⟩, .string ⟨#[]⟩, .string ⟨#[]⟩, .string ⟨#[]⟩] 61) = W1 := ⟨_, rfl⟩
  have hb1 : Below w.heap.size w W1 := by rw [← hW1]; exact ((Below.refl _ w).alloc (Nat.le_refl _) _).alloc (by simp) _
  have hi1 : W1.heap[w.heap.size]? = some (.cells #[.slice a1 n1 c1, .slice lo L.length lc, .slice a3 n3 c3, .slice a4 n4 c4, .int .i64 th, .int .i64 de] 35 (0, 0)) := by rw [← hW1]; exact (Below.heap_alloc _ _ _ (by simp)).trans (World.alloc_heap_new w _)
  have HR1 := Lib.hid (show W1.heap[w.heap.size + 1]? = some (.cells #[.string ⟨#[]⟩, .string ⟨#[]⟩, .string ⟨#[]⟩, .string ⟨#[]⟩, .string ⟨#[]⟩, .string ⟨#[]⟩] 61 (0, 0)) by
    have h := World.alloc_heap_new (w.alloc (.cells #[.slice a1 n1 c1, .slice lo L.length lc, .slice a3 n3 c3, .slice a4 n4 c4, .int .i64 th, .int .i64 de] 35)) (.cells #[.string ⟨#[]⟩, .string ⟨#[]⟩, .string ⟨#[]⟩, .string ⟨#[]⟩, .string ⟨#[]⟩, .string ⟨#[]⟩] 61)
    rw [World.size_alloc] at h
    rw [← hW1]
    exact h)
  have HCI := Lib.hid (fun (w' : World) (hb : Below W1.heap.size W1 w') => show w'.cell? ⟨w.heap.size, 1, none⟩ = some (.slice lo L.length lc) from cell_rowT 1 ((hb.block _ (lt_blockT hi1)).trans hi1) rfl)
  have HL := Lib.hid (hL.below hb1)
  have VC := Lib.hid (fun w5 (G : Nat) (hg : w5.heap[G]? = some (.cells #[.string l, .string s, .string r] 62 (0, 0))) (hb : Below W1.heap.size W1 w5) => (vals_make (some ⟨G, 0, none⟩) 1 1 w5).mono (R' := fun e w' => ∃ B G, e = .returned (.func (.func 61) #[] #[.pointer (some ⟨B, 0, none⟩)]) ∧ ValAt B G l s r w' ∧ Below W1.heap.size W1 w') fun e w' ⟨p, q⟩ => by
    subst q
    exact ⟨_, G, p, ⟨World.alloc_heap_new _ _, (Below.heap_alloc _ _ _ (lt_blockT hg)).trans hg⟩, hb.alloc hb.size _⟩)
  have FC := Lib.hid (fun w5 B G (hv : ValAt B G l s r w5) (hb : Below W1.heap.size W1 w5) => show Calls Try.prog 41 #[.slice lo L.length lc, .func (.func 61) #[] #[.pointer (some ⟨B, 0, none⟩)]] w5 fun e w' => e = .returned (.tuple #[.agg #[.string y.l, .string y.s, .string y.r, .string y.tl, .string y.ts, .string y.tr], .bool fb]) ∧ Below W1.heap.size W1 w' from by
    have h := first_any (.slice lo L.length lc) L 61 #[.pointer (some ⟨B, 0, none⟩)] [(l, s, r)] w5 (HL.out.below hb) hl hS (fun k hk => by rw [List.mem_singleton] at hk; rw [hk]; exact hK) (by simp) (vals_seq hv) (Go.Proofs.enters_of Try.func61 (by kernel_rfl) rfl)
    rw [hy, hfb] at h
    exact h.mono fun e w' ⟨p, q⟩ => ⟨p, hb.trans (q.mono hb.size)⟩)
  rw [hy, hfb]
  have HBW := Lib.hid hb1
  have HW1 := Lib.hid hW1
  clear hy hfb hi1 hL hS hK hl hb1 hW1
  go_enter Try.func30, Try.ntmps30
  go_upto_region 1 with fail
  rw [HW1.out]
  refine wp_region_late_drew (S := fun w' => Below W1.heap.size W1 w') (k := 11) (by kernel_rfl) (Below.drew (Below.refl W1.heap.size W1)) (fun hHeld => ?_)
  refine late_shell (fun _ _ d _ _ h => by cases d <;> exact h) ?_
  intro KK hKp hfin
  refine wpAnyZ_take (i := 0) (v := .pointer (some ⟨w.heap.size, 1, none⟩)) rfl (by kernel_rfl) (by kernel_rfl) (by kernel_rfl) (by kernel_rfl) (by kernel_rfl) (by kernel_rfl) (fun c a w h => hKp c a _ _ w h) (Or.inl ⟨by kernel_rfl, fun w hSw => by have h1 := HCI.out w hSw; go_simp⟩) hHeld ?_
  simp only [Act.put, List.getElem_toArray, List.getElem_cons_zero, List.setIfInBounds_toArray, List.set_cons_zero, List.set_cons_succ]
  refine wpAnyZ_take (i := 1) (v := .slice lo L.length lc) rfl (by kernel_rfl) (by kernel_rfl) (by kernel_rfl) (by kernel_rfl) (by kernel_rfl) (by kernel_rfl) (fun c a w h => hKp c a _ _ w h) (Or.inl ⟨by kernel_rfl, fun w hSw => by have h1 := HCI.out w hSw; go_simp⟩) hHeld ?_
  simp only [Act.put, List.getElem_toArray, List.getElem_cons_zero, List.getElem_cons_succ, List.setIfInBounds_toArray, List.set_cons_zero, List.set_cons_succ]
  refine wpAnyZ_take (i := 2) (v := .string l) rfl (by kernel_rfl) (by kernel_rfl) (by kernel_rfl) (by kernel_rfl) (by kernel_rfl) (by kernel_rfl) (fun c a w h => hKp c a _ _ w h) (Or.inl ⟨by kernel_rfl, fun w hSw => by have h1 := HCI.out w hSw; go_simp⟩) hHeld ?_
  simp only [Act.put, List.getElem_toArray, List.getElem_cons_zero, List.getElem_cons_succ, List.setIfInBounds_toArray, List.set_cons_zero, List.set_cons_succ]
  refine wpAnyZ_take (i := 3) (v := .string s) rfl (by kernel_rfl) (by kernel_rfl) (by kernel_rfl) (by kernel_rfl) (by kernel_rfl) (by kernel_rfl) (fun c a w h => hKp c a _ _ w h) (Or.inl ⟨by kernel_rfl, fun w hSw => by have h1 := HCI.out w hSw; go_simp⟩) hHeld ?_
  simp only [Act.put, List.getElem_toArray, List.getElem_cons_zero, List.getElem_cons_succ, List.setIfInBounds_toArray, List.set_cons_zero, List.set_cons_succ]
  refine wpAnyZ_take (i := 4) (v := .string r) rfl (by kernel_rfl) (by kernel_rfl) (by kernel_rfl) (by kernel_rfl) (by kernel_rfl) (by kernel_rfl) (fun c a w h => hKp c a _ _ w h) (Or.inl ⟨by kernel_rfl, fun w hSw => by have h1 := HCI.out w hSw; go_simp⟩) hHeld ?_
  simp only [Act.put, List.getElem_toArray, List.getElem_cons_zero, List.getElem_cons_succ, List.setIfInBounds_toArray, List.set_cons_zero, List.set_cons_succ]
  refine wpAnyZ_take (i := 5) (v := .agg #[.string l, .string s, .string r]) rfl (by kernel_rfl) (by kernel_rfl) (by kernel_rfl) (by kernel_rfl) (by kernel_rfl) (by kernel_rfl) (fun c a w h => hKp c a _ _ w h) (Or.inl ⟨by kernel_rfl, fun w hSw => by have h1 := HCI.out w hSw; go_simp⟩) hHeld ?_
  simp only [Act.put, List.getElem_toArray, List.getElem_cons_zero, List.getElem_cons_succ, List.setIfInBounds_toArray, List.set_cons_zero, List.set_cons_succ]
  refine wpAnyZ_ready (rs := [6]) (by kernel_rfl) (by simp) ?_
  refine AllReadyZ.cons rfl (fun Kx hKx => ?_) AllReadyZ.nil
  rw [if_pos (by kernel_rfl)]
  go_simp
  refine hKx.out _ _ (hHeld.alloc hHeld.size _) (fun hHeld => ?_)
  clear hKx Kx
  try simp only [Act.put, List.getElem_toArray, List.getElem_cons_zero, List.getElem_cons_succ, List.setIfInBounds_toArray, List.set_cons_zero, List.set_cons_succ]
  refine wpAnyZ_ready (rs := [7]) (by kernel_rfl) (by simp) ?_
  refine AllReadyZ.cons rfl (fun Kx hKx => ?_) AllReadyZ.nil
  rw [if_pos (by kernel_rfl)]
  go_simp
  refine (VC.out _ _ (show (W1.alloc (.cells #[.string l, .string s, .string r] 62)).drew.heap[W1.heap.size]? = some (.cells #[.string l, .string s, .string r] 62 (0, 0)) from World.alloc_heap_new W1 _) hHeld).mono ?_
  rintro e w2 ⟨B, G, rfl, hv, hb2⟩
  refine hKx.out _ _ (hb2) (fun hHeld => ?_)
  clear hKx Kx
  try simp only [Act.put, List.getElem_toArray, List.getElem_cons_zero, List.getElem_cons_succ, List.setIfInBounds_toArray, List.set_cons_zero, List.set_cons_succ]
  refine wpAnyZ_ready (rs := [8]) (by kernel_rfl) (by simp) ?_
  refine AllReadyZ.cons rfl (fun Kx hKx => ?_) AllReadyZ.nil
  rw [if_pos (by kernel_rfl)]
  go_simp
  refine (FC.out _ _ _ hv hHeld).mono ?_
  rintro e w3 ⟨rfl, hb3⟩
  refine hKx.out _ _ (hb3) (fun hHeld => ?_)
  clear hKx Kx
  try simp only [Act.put, List.getElem_toArray, List.getElem_cons_zero, List.getElem_cons_succ, List.setIfInBounds_toArray, List.set_cons_zero, List.set_cons_succ]
  refine wpAnyZ_take (i := 9) (v := .agg #[.string y.l, .string y.s, .string y.r, .string y.tl, .string y.ts, .string y.tr]) rfl (by kernel_rfl) (by kernel_rfl) (by kernel_rfl) (by kernel_rfl) (by kernel_rfl) (by kernel_rfl) (fun c a w h => hKp c a _ _ w h) (Or.inl ⟨by kernel_rfl, fun w hSw => by have h1 := HCI.out w hSw; go_simp⟩) hHeld ?_
  simp only [Act.put, List.getElem_toArray, List.getElem_cons_zero, List.getElem_cons_succ, List.setIfInBounds_toArray, List.set_cons_zero, List.set_cons_succ]
  refine wpAnyZ_take (i := 10) (v := .bool fb) rfl (by kernel_rfl) (by kernel_rfl) (by kernel_rfl) (by kernel_rfl) (by kernel_rfl) (by kernel_rfl) (fun c a w h => hKp c a _ _ w h) (Or.inl ⟨by kernel_rfl, fun w hSw => by have h1 := HCI.out w hSw; go_simp⟩) hHeld ?_
  simp only [Act.put, List.getElem_toArray, List.getElem_cons_zero, List.getElem_cons_succ, List.setIfInBounds_toArray, List.set_cons_zero, List.set_cons_succ]
  have HHE := Lib.hid hHeld
  have HR3 := Lib.hid ((HHE.out.block _ (lt_blockT HR1.out)).trans HR1.out)
  obtain ⟨g0, g1, g2, g3, g4, g5⟩ := cells6 HR3.out
  have f0 := frozenY HR3.out 0
  refine wpAnyZ_ready (rs := [11]) (by kernel_rfl) (by simp) ?_
  refine AllReadyZ.late rfl (by decide) (fun Kx hKx => ?_) AllReadyZ.nil
  rw [if_pos (by kernel_rfl)]
  refine wp_store_row 61 (.tmp 8) (.tmp 19) rfl (w.heap.size + 1) #[.string y.l, .string y.s, .string y.r, .string y.tl, .string y.ts, .string y.tr] rfl rfl 61 _ HR3.out lkSizeT rfl (by simp [Value.oneCell']) ?_
  refine hKx.out _ _ ?_
  clear hKx Kx
  try simp only [Act.put, List.getElem_toArray, List.getElem_cons_zero, List.getElem_cons_succ]
  refine wpAnyZ_ready (rs := [12]) (by kernel_rfl) (by simp) ?_
  refine AllReadyZ.late rfl (by decide) (fun Kx hKx => ?_) AllReadyZ.nil
  rw [if_pos (by kernel_rfl)]
  go_simp
  refine hKx.out _ _ ?_
  clear hKx Kx
  try simp only [Act.put, List.getElem_toArray, List.getElem_cons_zero, List.getElem_cons_succ, List.setIfInBounds_toArray, List.set_cons_zero, List.set_cons_succ]
  refine wpAnyZ_done (by kernel_rfl) ?_ _
  refine hfin _ _ ?_
  clear hfin hKp KK
  go_wp2
  refine bodyPost_ret (results_cell_tmpT rfl _ _ (w.heap.size + 1) 61 #[.string y.l, .string y.s, .string y.r, .string y.tl, .string y.ts, .string y.tr] (0, 0) _ (.bool fb) rfl rfl (setRow_heap _ _ _ _ _ _ HR3.out) Try.underlying61 rfl lkSizeT) rfl ?_
  exact ⟨rfl, (HBW.out.trans (HHE.out.mono HBW.out.size)).grown (setRow_grownT _ _ _) (by have := lt_blockT HR3.out; omega) (fun r e => by cases e; omega)⟩
end Go.Proofs.Ythjfcfhibdpbnaa

namespace Go.Proofs.Ythjfcfhibdpbnaa
open Go Go.RowKit

theorem append_anyT {P : Program} (w : World) {ops : Array Oper} {rest : List Oper} {o : Oper} {a : Act} {Q : Exit → Act → World → Prop} (hgd : o.guard = none) (s x : Operand) (t : TypeId)
    (ho : o.op = .call { callee := .builtin .append, args := #[s, x], argTypes := #[t, t] })
    (base : Nat) (e : TypeId) (i : TypeInfo) (z : Value) (size bytes : Nat) (ht : P.underlying t = some (.slice e)) (hi : P.info? e = some i) (hz : i.zero = some z)
    (hsize : i.size = size) (hby : i.bytes = bytes) (hzs : z.cells.size = size) (hsz : 0 < size)
    (v : Value) (n : Nat) (xs : List Value) (hs : a.eval s = v) (hown : w.ownsRow base e size v n xs)
    (ao : Option Addr) (m c : Nat) (news : List Value) (hx : a.eval x = .slice ao m c) (hao : ao = none → c = 0 ∧ m = 0) (hl : news.length = m * size) (hnews : ∀ ad, ao = some ad → ∀ j u, news[j]? = some u → w.cell? (ad.add j) = some u) (h1 : ∀ u ∈ news, u.oneCell' = true)
    (h63 : n + m ≤ maxLen) (hbytes : (n + m) * bytes ≤ 140737488355328) (hbase : base ≤ w.heap.size)
    (h : ∀ v' w', w'.ownsRow base e size v' (n + m) (xs ++ news) → w.grownBy w' v.ownBlock → wpList P ops Q rest (a.put o.dst v') w') : wpList P ops Q (o :: rest) a w := by
  cases ao with
  | none =>
    obtain ⟨rfl, rfl⟩ := hao rfl
    have hn : news = [] := List.length_eq_zero_iff.1 (by rw [hl]; omega)
    subst hn
    exact wpList_append_own_none hgd s x t ho base e i size ht hi v n xs hs hown hx (h v w (by rw [List.append_nil]; exact hown) (World.grownBy.refl _ _))
  | some ad => exact wpList_append_own w hgd s x t ho base e i z size bytes ht hi hz hsize hby hzs hsz v n xs hs hown ad m c news hx hl (hnews ad rfl) h1 h63 hbytes hbase (fun v' w' p q _ => h v' w' p q)

/-! The tables. -/
def qqqT : ByteArray := ⟨#[113, 113, 113]⟩
def qR : Lr := ⟨⟨#[113, 113, 113]⟩, ⟨#[]⟩, ⟨#[]⟩, ⟨#[113, 113, 113]⟩, ⟨#[113, 113, 113, 113]⟩, ⟨#[113, 113]⟩⟩
theorem hit_front {k : KT} {L : List Lr} (h : k.1 ≠ qqqT) : hitR (qR :: L) k = hitR L k := by
  unfold hitR
  have hk : keyR qR ≠ k := fun e => h (by rw [← e]; rfl)
  rw [List.find?_cons]
  simp [hk]
theorem hit_back {L : List Lr} {x y : Lr} {k : KT} (hx : x ∈ L) (hk : keyR y = keyR x) : hitR (L ++ [y]) k = hitR L k := by
  unfold hitR
  rw [List.find?_append]
  cases h : L.find? (fun x => decide (keyR x = k)) with
  | some z => rfl
  | none =>
    have h2 := List.find?_eq_none.1 h x hx
    have h3 : keyR x ≠ k := by simpa using h2
    simp [hk, h3]
theorem first_same {L L' : List Lr} : ∀ {A : List KT}, (∀ k ∈ A, hitR L' k = hitR L k) → firstT L' A = firstT L A
  | [], _ => rfl
  | k :: r, h => by
    unfold firstT
    rw [List.findSome?_cons, List.findSome?_cons, h k (List.mem_cons_self ..)]
    have := first_same (A := r) (fun x hx => h x (List.mem_cons_of_mem _ hx))
    unfold firstT at this
    rw [this]
theorem max_same {L L' : List Lr} {T : TagM} (h : ∀ k ∈ ladT T.lang T.script T.region, hitR L' k = hitR L k) : maxT L' T = maxT L T := by
  unfold maxT
  rw [first_same h]
theorem lad_lang {l s r : ByteArray} {k : KT} (h : k ∈ ladT l s r) : k.1 = l ∨ k.1 = undT := by
  have hk := List.mem_of_mem_take ((mem_ddT _ k).1 h)
  simp only [rungsT, List.mem_cons, List.not_mem_nil, or_false] at hk
  rcases hk with rfl | rfl | rfl | rfl | rfl
  · exact .inl rfl
  · exact .inl rfl
  · exact .inl rfl
  · exact .inl rfl
  · exact .inr rfl
theorem more_max {L : List Lr} {l s r : ByteArray} (hl : l ≠ qqqT) : maxT (qR :: L) (plainM l s r) = maxT L (plainM l s r) :=
  max_same fun _ hk => hit_front (by
    rcases lad_lang hk with h | h
    · rw [h]; exact hl
    · rw [h]; decide)
theorem more_max2 {L : List Lr} {x y : Lr} {l s r : ByteArray} (hl : l ≠ qqqT) (hx : x ∈ L) (hk : keyR y = keyR x) : maxT (qR :: L ++ [y]) (plainM l s r) = maxT L (plainM l s r) :=
  (max_same fun _ _ => hit_back (List.mem_cons_of_mem _ hx) hk).trans (more_max hl)
theorem pick18_qqq (q : Int) : pickT langs18 q ≠ qqqT := by
  unfold pickT
  rw [List.getD_eq_getElem?_getD]
  cases hx : langs18[pickI langs18.length q]? with
  | none => decide
  | some x =>
    have h : (langs18.all fun x => decide (x ≠ qqqT)) = true := by decide +kernel
    exact of_decide_eq_true (List.all_eq_true.1 h x (List.mem_of_getElem? hx))

/-! Rows in memory, cell by cell. -/
theorem lrC_lenT (L : List Lr) : ∀ c ∈ L.map lrC, c.length = 6 := by intro c hc; obtain ⟨x, -, rfl⟩ := List.mem_map.1 hc; rfl
theorem flat_lenL (L : List Lr) : ((L.map lrC).flatMap id).length = L.length * 6 := by
  induction L with
  | nil => rfl
  | cons x l ih => rw [List.map_cons, List.flatMap_cons, List.length_append, ih, List.length_cons, Nat.succ_mul]; show 6 + _ = _; omega
theorem flat_oneL (L : List Lr) : ∀ u ∈ (L.map lrC).flatMap id, u.oneCell' = true := by
  intro u hu
  obtain ⟨c, hc, hu⟩ := List.mem_flatMap.1 hu
  obtain ⟨x, -, rfl⟩ := List.mem_map.1 hc
  have : (lrC x).all (·.oneCell') = true := rfl
  exact List.all_eq_true.1 this u hu
theorem flat_invT : ∀ {L : List Lr} {j : Nat} {u : Value}, ((L.map lrC).flatMap id)[j]? = some u → ∃ i x k, L[i]? = some x ∧ j = i * 6 + k ∧ k < 6 ∧ (lrC x)[k]? = some u
  | [], j, u, h => by simp at h
  | x :: L, j, u, h => by
    rw [List.map_cons, List.flatMap_cons] at h
    by_cases hj : j < 6
    · rw [List.getElem?_append_left (by exact hj)] at h
      exact ⟨0, x, j, rfl, by omega, hj, h⟩
    · rw [List.getElem?_append_right (by show 6 ≤ j; omega)] at h
      obtain ⟨i, y, k, h1, h2, h3, h4⟩ := flat_invT (L := L) (j := j - 6) h
      exact ⟨i + 1, y, k, h1, by omega, h3, h4⟩
theorem addr_addL (g o j : Nat) : (⟨g, o, none⟩ : Addr).add j = ⟨g, o + j, none⟩ := by cases j <;> rfl
theorem RowL.news {W : World} {ad : Addr} {n c : Nat} {L : List Lr} (h : RowL W (.slice (some ad) n c) L) : ∀ j u, ((L.map lrC).flatMap id)[j]? = some u → W.cell? (ad.add j) = some u := by
  intro j u hj
  obtain ⟨i, x, k, h1, rfl, hk, h4⟩ := flat_invT hj
  obtain ⟨g, o, e, hc⟩ := h.open i x h1
  obtain ⟨c0, c1, c2, c3, c4, c5⟩ := hc W (Below.refl _ _)
  cases e
  rw [addr_addL]
  match k, hk, h4 with
  | 0, _, h4 => cases h4; exact c0
  | 1, _, h4 => cases h4; rw [← Nat.add_assoc]; exact c1
  | 2, _, h4 => cases h4; rw [← Nat.add_assoc]; exact c2
  | 3, _, h4 => cases h4; rw [← Nat.add_assoc]; exact c3
  | 4, _, h4 => cases h4; rw [← Nat.add_assoc]; exact c4
  | 5, _, h4 => cases h4; rw [← Nat.add_assoc]; exact c5
theorem own_rowL {W : World} {b n : Nat} {v : Value} {L : List Lr} (h : W.ownsRow b 61 6 v n ((L.map lrC).flatMap id)) (hn : n = L.length) : RowL W v L := by
  subst hn
  rcases h.2 with ⟨rfl, h0⟩ | ⟨g, cap, cur, rfl, hb, hg, hc, hm, hs, ht⟩
  · obtain rfl : L = [] := List.length_eq_zero_iff.1 h0
    exact ⟨none, 0, rfl, fun i x hx => by simp at hx⟩
  · refine ⟨some ⟨g, 0, none⟩, cap, rfl, fun i x hx => ?_⟩
    have hgt : ∀ k u, (lrC x)[k]? = some u → W.cell? ⟨g, i * 6 + k, none⟩ = some u := fun k u hk => by
      have e := flat_getZ (sz := 6) (L := L.map lrC) (i := i) (k := k) (lrC_lenT L) (by rw [List.getElem?_map, hx]; rfl) hk
      have hlt := (List.getElem?_eq_some_iff.1 e).1
      rw [flat_lenL] at hlt
      rw [World.ownsRow.cellAt h _ hlt]
      exact e
    refine ⟨g, 0, rfl, ?_, ?_, ?_, ?_, ?_, ?_⟩
    · simpa using hgt 0 _ rfl
    · simpa using hgt 1 _ rfl
    · simpa using hgt 2 _ rfl
    · simpa using hgt 3 _ rfl
    · simpa using hgt 4 _ rfl
    · simpa using hgt 5 _ rfl
theorem own_snocL {W : World} {b n : Nat} {v : Value} {L : List Lr} {y : Lr} (h : W.ownsRow b 61 6 v n ((L.map lrC).flatMap id ++ lrC y)) : W.ownsRow b 61 6 v n (((L ++ [y]).map lrC).flatMap id) := by
  rw [List.map_append, List.flatMap_append, List.map_singleton, List.flatMap_singleton]
  exact h

theorem own_lowL {W : World} {b n sz : Nat} {e : TypeId} {v : Value} {xs : List Value} (h : W.ownsRow b e sz v n xs) : ∀ r, v.ownBlock = some r → b ≤ r := by
  intro r hr
  rcases h.2 with ⟨rfl, _⟩ | ⟨g, cap, cur, rfl, hb, _⟩
  · cases hr
  · cases hr
    exact hb

/-! The law's own rest. -/
set_option maxRecDepth 100000 in
theorem rest18n_any (x : Int) (n : Nat) (w : World) (hn : 1 ≤ n) (hn2 : n ≤ 1000) :
    Calls Try.prog 39 #[.int .i64 x, .int .i64 (n : Int)] w fun e w' => e = .returned (.int .i64 (restV x n : Int)) ∧ w = w' := by
  have HE := Lib.hid (rest_numZ x n hn hn2)
  have h0 : ((n : Int) == 0) = false := by rw [beq_eq_false_iff_ne]; omega
  have h1 : (n : Int) ≠ 0 := by omega
  clear hn hn2
  generalize hm : (n : Int) = m at *
  go_enter Try.func39, Try.ntmps39
  go_wp2
  go_ret
  exact ⟨ret_int HE.out, rfl⟩

/-! Maximize at a tag of a language, a script, a region alone: what comes has no rows. -/
theorem plain_is0 (W : World) (l s r g : ByteArray) (a1 a2 a3 a4 : Option Addr) (d1 d2 d3 d4 : Nat) : TagIs W (.agg #[.string l, .slice a1 0 d1, .string s, .string r, .slice a2 0 d2, .slice a3 0 d3, .slice a4 0 d4, .string g]) ⟨l, [], s, r, [], [], [], g⟩ :=
  ⟨_, _, _, _, rfl, ⟨a1, d1, rfl, fun i x h => by simp at h⟩, ⟨a2, d2, rfl, fun i x h => by simp at h⟩, ⟨a3, d3, rfl, fun i x h => by simp at h⟩, ⟨a4, d4, rfl, fun i x h => by simp at h⟩⟩
theorem max_rows (L : List Lr) (l s r : ByteArray) : (maxT L (plainM l s r)).1 = plainM (maxT L (plainM l s r)).1.lang (maxT L (plainM l s r)).1.script (maxT L (plainM l s r)).1.region := by
  unfold maxT
  split <;> rfl
theorem max_flat (a1 a3 a4 : Option Addr) (n1 c1 n3 c3 n4 c4 : Nat) (th de : Int) (lk : Value) (L : List Lr) (l s r l' s' r' : ByteArray) (b : Bool) (w : World) (hL : RowL w lk L) (hl : L.length ≤ 4000) (hS : RowS L) (hK : KST (l, s, r))
    (hm : maxT L (plainM l s r) = (plainM l' s' r', b)) :
    Calls Try.prog 14 #[.agg #[.slice a1 n1 c1, lk, .slice a3 n3 c3, .slice a4 n4 c4, .int .i64 th, .int .i64 de], .agg #[.string l, .slice none 0 0, .string s, .string r, .slice none 0 0, .slice none 0 0, .slice none 0 0, .string ⟨#[]⟩]] w fun e w' =>
      ∃ b1 d1 b2 d2 b3 d3 b4 d4, e = .returned (.tuple #[.agg #[.string l', .slice b1 0 d1, .string s', .string r', .slice b2 0 d2, .slice b3 0 d3, .slice b4 0 d4, .string ⟨#[]⟩], .bool b]) ∧ Below w.heap.size w w' := by
  refine (maxi_any a1 a3 a4 n1 c1 n3 c3 n4 c4 th de lk L _ (plainM l s r) w hL hl hS (plain_is w l s r) (plain_fits l s r) hK).mono ?_
  rintro e w' ⟨u, rfl, hT, hb⟩
  rw [hm] at hT ⊢
  obtain ⟨ve, vv, vx, vp, rfl, ⟨b1, d1, rfl, _⟩, ⟨b2, d2, rfl, _⟩, ⟨b3, d3, rfl, _⟩, ⟨b4, d4, rfl, _⟩⟩ := hT
  exact ⟨_, _, _, _, _, _, _, _, rfl, hb⟩
end Go.Proofs.Ythjfcfhibdpbnaa

namespace Go.Proofs.Ythjfcfhibdpbnaa
open Go Go.RowKit
theorem ladT_head {l s r : ByteArray} (hl : 0 < l.size) : ∃ A, ladT l s r = (l, s, r) :: A := by
  have h := addD_prefix (((rungsT l s r).take (sizeT l s)).drop 1) (addD [] (l, s, r))
  have e : (rungsT l s r).take (sizeT l s) = (l, s, r) :: ((rungsT l s r).take (sizeT l s)).drop 1 := by
    unfold sizeT
    rw [if_neg (by omega)]
    split <;> rfl
  have e2 : ladT l s r = (((rungsT l s r).take (sizeT l s)).drop 1).foldl addD (addD [] (l, s, r)) := by
    unfold ladT ddT
    rw [e, List.foldl_cons]
    rfl
  rw [← e2] at h
  have e3 : addD [] (l, s, r) = [(l, s, r)] := rfl
  rw [e3] at h
  obtain ⟨A, hA⟩ := h
  exact ⟨A, hA.symm⟩
theorem hit_mem {L : List Lr} {y : Lr} (hy : y ∈ L) : ∃ z, hitR L (keyR y) = some z := by
  unfold hitR
  cases h : L.find? (fun x => decide (keyR x = keyR y)) with
  | some z => exact ⟨z, rfl⟩
  | none =>
    have := List.find?_eq_none.1 h y hy
    simp at this
theorem own_first {L : List Lr} {y z : Lr} (h : hitR L (keyR y) = some z) : firstY L [(y.l, y.s, y.r)] = z ∧ firstB L [(y.l, y.s, y.r)] = true := by
  have e : firstT L [(y.l, y.s, y.r)] = some z := by
    unfold firstT
    rw [List.findSome?_cons]
    have h : hitR L (y.l, y.s, y.r) = some z := h
    rw [h]
  unfold firstY firstB
  rw [e]
  exact ⟨rfl, rfl⟩
theorem own_max {L : List Lr} {y z : Lr} (h : hitR L (keyR y) = some z) (hl : 0 < y.l.size) : maxT L (plainM y.l y.s y.r) = (plainM (if y.l = undT then z.tl else y.l) (orT y.s z.ts) (orT y.r z.tr), true) := by
  obtain ⟨A, hA⟩ := ladT_head (l := y.l) (s := y.s) (r := y.r) hl
  have e : firstT L (ladT y.l y.s y.r) = some z := by
    rw [hA]
    unfold firstT
    rw [List.findSome?_cons]
    have h : hitR L (y.l, y.s, y.r) = some z := h
    rw [h]
  unfold maxT
  show (match firstT L (ladT y.l y.s y.r) with | some x => (fillT (plainM y.l y.s y.r) x, true) | none => (plainM y.l y.s y.r, false)) = _
  rw [e]
  rfl
end Go.Proofs.Ythjfcfhibdpbnaa

namespace Go.Proofs.Ythjfcfhibdpbnaa
open Go Go.RowKit

attribute [local go_sem] Oper.semAt_some

set_option maxRecDepth 100000 in
set_option maxHeartbeats 8000000 in
theorem own_any (a1 lo a3 a4 : Option Addr) (n1 c1 lc n3 c3 n4 c4 : Nat) (th de : Int) (L : List Lr) (n : Int) (w : World) (hL : RowL w (.slice lo L.length lc) L) (hl : L.length ≤ 1000) (hS : RowS L) (hN : ∀ x ∈ L, 0 < x.l.size) :
    Calls Try.prog 12 #[.agg #[.slice a1 n1 c1, .slice lo L.length lc, .slice a3 n3 c3, .slice a4 n4 c4, .int .i64 th, .int .i64 de], .int .i64 n] w fun e w' => e = .returned (.bool true) ∧ Below w.heap.size w w' := by
  obtain ⟨W1, hW1⟩ : ∃ W1, w.alloc (.cells #[.slice a1 n1 c1, .slice lo L.length lc, .slice a3 n3 c3, .slice a4 n4 c4, .int .i64 th, .int .i64 de] 35) = W1 := ⟨_, rfl⟩
  have hb1 : Below w.heap.size w W1 := by rw [← hW1]; exact (Below.refl _ w).alloc (Nat.le_refl _) _
  have hi1 : W1.heap[w.heap.size]? = some (.cells #[.slice a1 n1 c1, .slice lo L.length lc, .slice a3 n3 c3, .slice a4 n4 c4, .int .i64 th, .int .i64 de] 35 (0, 0)) := by rw [← hW1]; exact World.alloc_heap_new w _
  have HI1 := Lib.hid hi1
  have HL1 := Lib.hid (hL.below hb1)
  have HBW := Lib.hid hb1
  have HW1 := Lib.hid hW1
  have HS := Lib.hid hS
  have HN := Lib.hid hN
  have HLL := Lib.hid hl
  obtain ⟨c0, cc1, c2, cc3, cc4, c5⟩ := cells6 hi1
  clear hb1 hi1 hL hW1 hS hN hl
  rcases Nat.eq_zero_or_pos L.length with hn0 | hn0
  · have hgt : ((L.length : Int) == 0) = true := by rw [beq_iff_eq]; omega
    clear hn0
    go_enter Try.func12, Try.ntmps12
    go_upto_region 1 with fail
    try rw [HW1.out]
    go_wp2_with fail
    go_ret
    exact ⟨rfl, HBW.out⟩
  · have hgt : ((L.length : Int) == 0) = false := by rw [beq_eq_false_iff_ne]; omega
    have HR := Lib.hid (fun w5 => rest18n_any n L.length w5 hn0 HLL.out)
    have hrl := restV_lt n L.length hn0
    generalize restV n L.length = k at *
    obtain ⟨y, hy⟩ : ∃ y, L[k]? = some y := ⟨_, List.getElem?_eq_getElem hrl⟩
    have hym := List.mem_of_getElem? hy
    obtain ⟨z, hz⟩ := hit_mem hym
    have hyl := HN.out y hym
    have hmx := own_max hz hyl
    have hfi := own_first hz
    have hyk := HS.out y hym
    obtain ⟨g, o, rfl, hcy⟩ := HL1.out.open k y hy
    obtain ⟨yl, ys, yr, yt, yu, yv⟩ := y
    obtain ⟨zl, zs, zr, zt, zu, zv⟩ := z
    dsimp only at *
    have HMX := Lib.hid hmx
    have HFI := Lib.hid hfi
    have HYK := Lib.hid (show KST (yl, ys, yr) from hyk)
    have HYL := Lib.hid hyl
    clear hym hz hyl hmx hfi hyk
    obtain ⟨y0, y1, y2, y3, y4, y5⟩ := hcy W1 (Below.refl _ _)
    have k0 : (0 : Int) ≤ (k : Int) := by omega
    have k1 : (k : Int) < (L.length : Int) := by omega
    go_enter Try.func12, Try.ntmps12
    go_upto_region 1 with fail
    try rw [HW1.out]
    go_upto_region 3 with fail
    have HSS := Lib.hid (fun w' (h : Below W1.heap.size W1 w') => show Below W1.heap.size W1 w' ∧ w'.cell? ⟨w.heap.size, 1, none⟩ = some (.slice (some ⟨g, o, none⟩) L.length lc) ∧ w'.cell? ⟨g, o + k * 6, none⟩ = some (.string yl) ∧ w'.cell? ⟨g, o + k * 6 + 1, none⟩ = some (.string ys) ∧ w'.cell? ⟨g, o + k * 6 + 2, none⟩ = some (.string yr) ∧ w'.cell? ⟨g, o + k * 6 + 3, none⟩ = some (.string yt) ∧ w'.cell? ⟨g, o + k * 6 + 4, none⟩ = some (.string yu) ∧ w'.cell? ⟨g, o + k * 6 + 5, none⟩ = some (.string yv) from ⟨h, (h.cell (p := ⟨w.heap.size, 1, none⟩) (lt_cellT cc1)).trans cc1, (h.cell (p := ⟨g, o + k * 6, none⟩) (lt_cellT y0)).trans y0, (h.cell (p := ⟨g, o + k * 6 + 1, none⟩) (lt_cellT y1)).trans y1, (h.cell (p := ⟨g, o + k * 6 + 2, none⟩) (lt_cellT y2)).trans y2, (h.cell (p := ⟨g, o + k * 6 + 3, none⟩) (lt_cellT y3)).trans y3, (h.cell (p := ⟨g, o + k * 6 + 4, none⟩) (lt_cellT y4)).trans y4, (h.cell (p := ⟨g, o + k * 6 + 5, none⟩) (lt_cellT y5)).trans y5⟩)
    have hdr : Below W1.heap.size W1 W1.drew := Below.drew (Below.refl _ _)
    have HDA := Lib.hid (hdr.alloc hdr.size (.cells #[.string yl, .string ys, .string yr, .string yt, .string yu, .string yv] 61))
    go_region_held3 (fun w' => Below W1.heap.size W1 w' ∧ w'.cell? ⟨w.heap.size, 1, none⟩ = some (.slice (some ⟨g, o, none⟩) L.length lc) ∧ w'.cell? ⟨g, o + k * 6, none⟩ = some (.string yl) ∧ w'.cell? ⟨g, o + k * 6 + 1, none⟩ = some (.string ys) ∧ w'.cell? ⟨g, o + k * 6 + 2, none⟩ = some (.string yr) ∧ w'.cell? ⟨g, o + k * 6 + 3, none⟩ = some (.string yt) ∧ w'.cell? ⟨g, o + k * 6 + 4, none⟩ = some (.string yu) ∧ w'.cell? ⟨g, o + k * 6 + 5, none⟩ = some (.string yv))
      (exact HSS.out _ (by first | assumption | exact hdr.alloc hdr.size _ | exact HDA.out))
      (first | (go_at_call 39; (with_reducible refine (HR.out _).mono ?_); rintro e u1 ⟨rfl, rfl⟩))
    all_goals
      have hb2 : Below W1.heap.size W1 (W1.alloc (.cells #[.string yl, .string ys, .string yr, .string yt, .string yu, .string yv] 61)).drew := Below.drew ((Below.refl _ W1).alloc (Nat.le_refl _) _)
      have HY2 := Lib.hid (show (W1.alloc (.cells #[.string yl, .string ys, .string yr, .string yt, .string yu, .string yv] 61)).drew.heap[W1.heap.size]? = some (.cells #[.string yl, .string ys, .string yr, .string yt, .string yu, .string yv] 61 (0, 0)) from World.alloc_heap_new W1 _)
      obtain ⟨W2, hW2⟩ : ∃ W2, (W1.alloc (.cells #[.string yl, .string ys, .string yr, .string yt, .string yu, .string yv] 61)).drew = W2 := ⟨_, rfl⟩
      rw [hW2]
      rw [hW2] at hb2 HY2
      have HB2 := Lib.hid hb2
      obtain ⟨l', hl'⟩ : ∃ x, (if yl = undT then zt else yl) = x := ⟨_, rfl⟩
      obtain ⟨s', hs'⟩ : ∃ x, orT ys zu = x := ⟨_, rfl⟩
      obtain ⟨r', hr'⟩ : ∃ x, orT yr zv = x := ⟨_, rfl⟩
      have hmx := HMX.out
      rw [hl', hs', hr'] at hmx
      have HC := Lib.hid (max_flat a1 a3 a4 n1 c1 n3 c3 n4 c4 th de _ L yl ys yr l' s' r' true W2 (HL1.out.below hb2) (by have := HLL.out; omega) HS.out HYK.out hmx)
      have HFC := Lib.hid (fun w5 (h : Below W1.heap.size W1 w5) => show Calls Try.prog 30 #[.agg #[.slice a1 n1 c1, .slice (some ⟨g, o, none⟩) L.length lc, .slice a3 n3 c3, .slice a4 n4 c4, .int .i64 th, .int .i64 de], .string yl, .string ys, .string yr] w5 fun e w' => e = .returned (.tuple #[.agg #[.string zl, .string zs, .string zr, .string zt, .string zu, .string zv], .bool true]) ∧ Below w5.heap.size w5 w' from by
        have h := find_any a1 a3 a4 n1 c1 n3 c3 n4 c4 th de (some ⟨g, o, none⟩) lc L yl ys yr w5 (HL1.out.below h) (by have := HLL.out; omega) HS.out HYK.out
        rw [HFI.out.1, HFI.out.2] at h
        exact h)
      have HLE := Lib.hid hl'
      have HSE := Lib.hid hs'
      have HRE := Lib.hid hr'
      have hy2 := HY2.out
      obtain ⟨z0, z1, z2, z3, z4, z5⟩ := cells6 hy2
      clear hW2 hy2 HSS hdr HDA HR c0 cc1 c2 cc3 cc4 c5 y0 y1 y2 y3 y4 y5 hmx hl' hs' hr' hcy hy
      have hi2 := (hb2.block _ (lt_blockT HI1.out)).trans HI1.out
      obtain ⟨c0, cc1, c2, cc3, cc4, c5⟩ := cells6 hi2
      clear hi2 hb2
      go_upto_region 5 with (go_at_call 14; (with_reducible refine HC.out.mono ?_); rintro e w3 ⟨b1, d1, b2, d2, b3, d3, b4, d4, rfl, hb3⟩; have HB3 := Lib.hid hb3; clear hb3)
      obtain ⟨W3, hW3⟩ : ∃ W3, w3.alloc (.cells #[.string l', .slice b1 0 d1, .string s', .string r', .slice b2 0 d2, .slice b3 0 d3, .slice b4 0 d4, .string ⟨#[]⟩] 40) = W3 := ⟨_, rfl⟩
      rw [hW3]
      have hb23 : Below W2.heap.size W2 W3 := by rw [← hW3]; exact HB3.out.alloc HB3.out.size _
      have HT3 := Lib.hid (show W3.heap[w3.heap.size]? = some (.cells #[.string l', .slice b1 0 d1, .string s', .string r', .slice b2 0 d2, .slice b3 0 d3, .slice b4 0 d4, .string ⟨#[]⟩] 40 (0, 0)) by rw [← hW3]; exact World.alloc_heap_new w3 _)
      have HB13 := Lib.hid (HB2.out.trans (hb23.mono HB2.out.size))
      have HY3 := Lib.hid ((hb23.block _ (lt_blockT HY2.out)).trans HY2.out)
      clear hW3 hb23 z0 z1 z2 z3 z4 z5 c0 cc1 c2 cc3 cc4 c5
      have hy3 := HY3.out
      have hi3 := (HB13.out.block _ (lt_blockT HI1.out)).trans HI1.out
      obtain ⟨z0, z1, z2, z3, z4, z5⟩ := cells6 hy3
      obtain ⟨c0, cc1, c2, cc3, cc4, c5⟩ := cells6 hi3
      clear hy3 hi3
      have HFX := Lib.hid (HFC.out W3 HB13.out)
      go_upto_region 6 with (go_at_call 30; (with_reducible refine HFX.out.mono ?_); rintro e w4 ⟨rfl, hb4⟩; have HB4 := Lib.hid hb4; clear hb4)
      obtain ⟨W4, hW4⟩ : ∃ W4, w4.alloc (.cells #[.string zl, .string zs, .string zr, .string zt, .string zu, .string zv] 61) = W4 := ⟨_, rfl⟩
      rw [hW4]
      have hb34 : Below W3.heap.size W3 W4 := by rw [← hW4]; exact HB4.out.alloc HB4.out.size _
      have hz4 : W4.heap[w4.heap.size]? = some (.cells #[.string zl, .string zs, .string zr, .string zt, .string zu, .string zv] 61 (0, 0)) := by rw [← hW4]; exact World.alloc_heap_new w4 _
      clear z0 z1 z2 z3 z4 z5 c0 cc1 c2 cc3 cc4 c5
      have hy4 := (hb34.block _ (lt_blockT HY3.out)).trans HY3.out
      have ht4 := (hb34.block _ (lt_blockT HT3.out)).trans HT3.out
      have HE := Lib.hid (HBW.out.trans ((HB13.out.trans (hb34.mono HB13.out.size)).mono HBW.out.size))
      obtain ⟨z0, z1, z2, z3, z4, z5⟩ := cells6 hy4
      obtain ⟨x0, x1, x2, x3, x4, x5⟩ := cells6 hz4
      obtain ⟨t0, t1, t2, t3, t4, t5, t6, t7⟩ := tag_cells ht4
      clear hW4 hb34 hz4 hy4 ht4
      go_upto_region 9 with fail
      have hu := same_undT yl
      have hle := HLE.out
      by_cases hun : yl = undT
      all_goals
        first | (rw [decide_eq_true hun] at hu; rw [if_pos hun] at hle) | (rw [decide_eq_false hun] at hu; rw [if_neg hun] at hle)
        subst hle
        clear hun
        have hse := HSE.out
        have hre := HRE.out
        unfold orT at hse hre
        rcases Nat.eq_zero_or_pos ys.size with h1 | h1
        all_goals
          first | (rw [if_pos h1] at hse; obtain rfl := emptyT h1) | (rw [if_neg (by omega)] at hse; have q1 := empty_false h1)
          subst hse
          clear h1
          rcases Nat.eq_zero_or_pos yr.size with h2 | h2
          all_goals
            first | (rw [if_pos h2] at hre; obtain rfl := emptyT h2) | (rw [if_neg (by omega)] at hre; have q2 := empty_false h2)
            subst hre
            clear h2
            go_wp2_with fail
            go_ret
            exact ⟨rfl, HE.out⟩
end Go.Proofs.Ythjfcfhibdpbnaa

namespace Go.Proofs.Ythjfcfhibdpbnaa
open Go Go.RowKit
attribute [local go_sem] Oper.semAt_some

def toLrO (x : Lk) : Lr := ⟨x.l, x.s, x.r, x.tl, x.ts, x.tr⟩
theorem flat_toLrO (l : List Lk) : ((l.map toLrO).map lrC).flatMap id = (l.map lkC).flatMap id := by
  rw [List.map_map]
  rfl
theorem own4_rowO {W : World} {b : Nat} {im : Im} {va vl vr vm : Value} (h : Own4 W b im va vl vr vm) (hl : im.lks.length ≤ 1000) (hne : ∀ x ∈ im.lks, 0 < x.l.size) : ∃ lo lc L, vl = .slice lo (List.length L) lc ∧ RowL W vl L ∧ (lo = none → lc = 0 ∧ L.length = 0) ∧ L.length ≤ 1000 ∧ RowS L ∧ (∀ x ∈ L, 0 < x.l.size) := by
  have ho : W.ownsRow b 61 6 vl (im.lks.map toLrO).length (((im.lks.map toLrO).map lrC).flatMap id) := by
    rw [flat_toLrO, List.length_map]
    exact h.l
  have hr := own_rowL ho rfl
  obtain ⟨lo, lc, rfl⟩ := hr.shape
  refine ⟨lo, lc, _, rfl, hr, fun e => ?_, by rw [List.length_map]; exact hl, fun x hx => ?_, fun x hx => by obtain ⟨y, hy, rfl⟩ := List.mem_map.1 hx; exact hne y hy⟩
  · subst e
    rcases ho.2 with ⟨e, h0⟩ | ⟨g, cap, cur, e, _⟩
    · injection e with e1 e2 e3
      exact ⟨e3, h0⟩
    · injection e with e1
      cases e1
  · obtain ⟨y, hy, rfl⟩ := List.mem_map.1 hx
    have hs := h.s.lks y hy
    refine ⟨Nat.le_trans (hs y.l ?_) (by decide), Nat.le_trans (hs y.s ?_) (by decide), Nat.le_trans (hs y.r ?_) (by decide)⟩ <;> simp [lkT]
theorem lks_lenO {S : SeedZ} {im : Im} (h : BaseI S im) (k : Nat) : (spI im k).lks.length ≤ 1000 := by
  have h1 := h.l.len
  have h2 : 2 * min S.lks.length 8 ≤ 16 := by omega
  unfold spI
  split <;> (try simp only [List.length_append, List.length_cons, List.length_nil]) <;> omega
theorem lks_neO {S : SeedZ} {im : Im} (h : BaseI S im) (k : Nat) : ∀ x ∈ (spI im k).lks, 0 < x.l.size := by
  have h1 := h.l.ne
  have e : ∀ (y : Lk), 0 < y.l.size → ∀ x ∈ im.lks ++ [y], 0 < x.l.size := fun y hy x hx => (List.mem_append.1 hx).elim (h1 x) fun e => by obtain rfl := List.mem_singleton.1 e; exact hy
  unfold spI
  split
  all_goals first | exact h1 | exact e _ (by decide)
theorem L15_neO : ∀ x ∈ L15, 0 < x.l.size := by
  have h : (L15.all fun x => decide (0 < x.l.size)) = true := by decide +kernel
  exact fun x hx => of_decide_eq_true (List.all_eq_true.1 h x hx)
set_option maxRecDepth 100000 in
set_option maxHeartbeats 1600000 in
theorem likelyOwn_law (S : SeedZ) (va vl vr vm : Value) (n : Int) (w : World) (hS : SdR w va vl vr vm S) :
    Calls Try.prog 4 #[.agg #[va, vl, vr, vm, .int .i64 S.th, .int .i64 S.de, .int .i64 S.odd], .int .i64 n] w fun e w' => e = .returned (.bool true) ∧ Below w.heap.size w w' := by
  obtain ⟨xa, ca, rfl, -⟩ := hS.a.opened
  obtain ⟨xl, cl, rfl, -⟩ := hS.l.opened
  obtain ⟨xr, cr, rfl, -⟩ := hS.r.opened
  obtain ⟨xm, cm, rfl, -⟩ := hS.m.opened
  obtain ⟨W0, hW0⟩ : ∃ W0, w.alloc (.cells #[.slice xa S.als.length ca, .slice xl S.lks.length cl, .slice xr S.rls.length cr, .slice xm S.mbs.length cm, .int .i64 S.th, .int .i64 S.de, .int .i64 S.odd] 25) = W0 := ⟨_, rfl⟩
  have hb0 : Below w.heap.size w W0 := by rw [← hW0]; exact (Below.refl _ w).alloc (Nat.le_refl _) _
  have hi0 : W0.heap[w.heap.size]? = some (.cells #[.slice xa S.als.length ca, .slice xl S.lks.length cl, .slice xr S.rls.length cr, .slice xm S.mbs.length cm, .int .i64 S.th, .int .i64 S.de, .int .i64 S.odd] 25 (0, 0)) := by rw [← hW0]; exact World.alloc_heap_new w _
  have HAW := Lib.hid (awake18_any W0)
  have HS := Lib.hid hS
  have HB0 := Lib.hid hb0
  have HI0 := Lib.hid hi0
  have HW0 := Lib.hid hW0
  clear hS hb0 hi0 hW0
  go_enter Try.func4, Try.ntmps4
  go_upto_region 1 with fail
  rw [HW0.out]
  go_upto_region 2 with (go_at_call 6; (with_reducible refine HAW.out.mono ?_); rintro e w1 ⟨rfl, hb1⟩; have HB1 := Lib.hid hb1; clear hb1)
  have HBW1 := Lib.hid (HB0.out.trans (HB1.out.mono HB0.out.size))
  have hs1 := (HB1.out.block _ (lt_blockT HI0.out)).trans HI0.out
  have s0 := cell_rowT 0 hs1 rfl
  have s1 := cell_rowT 1 hs1 rfl
  have s2 := cell_rowT 2 hs1 rfl
  have s3 := cell_rowT 3 hs1 rfl
  have s4 := cell_rowT 4 hs1 rfl
  have s5 := cell_rowT 5 hs1 rfl
  have s6 := cell_rowT 6 hs1 rfl
  have HMD := Lib.hid (made13_any S _ _ _ _ w1 (HS.out.below HBW1.out))
  clear hs1
  go_upto_region 3 with (go_at_call 7; (with_reducible refine HMD.out.mono ?_); rintro e w2 ⟨im0, hbi, va, vl, vr, vm, rfl, ho4, hb2⟩; obtain ⟨a1, n1, c1, rfl⟩ := own_sliceT ho4.a; obtain ⟨a3, n3, c3, rfl⟩ := own_sliceT ho4.r; obtain ⟨a4, n4, c4, rfl⟩ := own_sliceT ho4.m; obtain ⟨lo, lc, L, rfl, hRL, hlo, hlL, hRS, hNE⟩ := own4_rowO ho4 (lks_lenO hbi _) (lks_neO hbi _); have HRL := Lib.hid hRL; have HNE := Lib.hid hNE; have HLL := Lib.hid hlL; have HRS := Lib.hid hRS; have HB2 := Lib.hid hb2; generalize (spI im0 (restV S.odd 12)).th = th at *; generalize (spI im0 (restV S.odd 12)).de = de at *; clear ho4 hRL hlo hlL hRS hb2 hbi hNE)
  clear s0 s1 s2 s3 s4 s5 s6
  obtain ⟨W2, hW2⟩ : ∃ W2, w2.alloc (.cells #[.slice a1 n1 c1, .slice lo L.length lc, .slice a3 n3 c3, .slice a4 n4 c4, .int .i64 th, .int .i64 de] 35) = W2 := ⟨_, rfl⟩
  rw [hW2]
  have hb3 : Below w2.heap.size w2 W2 := by rw [← hW2]; exact (Below.refl _ _).alloc (Nat.le_refl _) _
  have HI2 := Lib.hid (show W2.heap[w2.heap.size]? = some (.cells #[.slice a1 n1 c1, .slice lo L.length lc, .slice a3 n3 c3, .slice a4 n4 c4, .int .i64 th, .int .i64 de] 35 (0, 0)) by rw [← hW2]; exact World.alloc_heap_new w2 _)
  have hb12 := HB2.out.trans (hb3.mono HB2.out.size)
  have HBW := Lib.hid (HBW1.out.trans (hb12.mono HBW1.out.size))
  have HRL2 := Lib.hid (HRL.out.below hb3)
  clear hW2 hb3 hb12
  have HSS := Lib.hid (fun w' (h : Below W2.heap.size W2 w') => show Below W2.heap.size W2 w' ∧ w'.cell? ⟨w2.heap.size, 0, none⟩ = some (.slice a1 n1 c1) ∧ w'.cell? ⟨w2.heap.size, 1, none⟩ = some (.slice lo L.length lc) ∧ w'.cell? ⟨w2.heap.size, 2, none⟩ = some (.slice a3 n3 c3) ∧ w'.cell? ⟨w2.heap.size, 3, none⟩ = some (.slice a4 n4 c4) ∧ w'.cell? ⟨w2.heap.size, 4, none⟩ = some (.int .i64 th) ∧ w'.cell? ⟨w2.heap.size, 5, none⟩ = some (.int .i64 de) from by
    have h1 := (h.block _ (lt_blockT HI2.out)).trans HI2.out
    exact ⟨h, cell_rowT 0 h1 rfl, cell_rowT 1 h1 rfl, cell_rowT 2 h1 rfl, cell_rowT 3 h1 rfl, cell_rowT 4 h1 rfl, cell_rowT 5 h1 rfl⟩)
  have HMA := Lib.hid (fun w5 (h : Below W2.heap.size W2 w5) => (own_any a1 lo a3 a4 n1 c1 lc n3 c3 n4 c4 th de L n w5 (HRL2.out.below h) HLL.out HRS.out HNE.out).mono (R' := fun e w' => e = .returned (.bool true) ∧ Below W2.heap.size W2 w') fun e w' ⟨p, q⟩ => ⟨p, h.trans (q.mono h.size)⟩)
  have HIM := Lib.hid (fun w5 (h : Below W2.heap.size W2 w5) => (image_15 w5).mono (R' := fun e w' => ∃ g1 g2 g3 g4, e = .returned (.agg #[.slice (some ⟨g1, 0, none⟩) 54 54, .slice (some ⟨g2, 0, none⟩) 32 32, .slice (some ⟨g3, 0, none⟩) 15 15, .slice (some ⟨g4, 0, none⟩) 7 7, .int .i64 40, .int .i64 5]) ∧ RowL w' (.slice (some ⟨g2, 0, none⟩) 32 32) L15 ∧ Below W2.heap.size W2 w') fun e w' ⟨g1, g2, g3, g4, p, q, r⟩ => ⟨g1, g2, g3, g4, p, rowL_15 q, h.trans (r.mono h.size)⟩)
  have HMB := Lib.hid (fun (g1 g2 g3 g4 : Nat) (w5 : World) (hr : RowL w5 (.slice (some ⟨g2, 0, none⟩) 32 32) L15) (h : Below W2.heap.size W2 w5) => (own_any (some ⟨g1, 0, none⟩) (some ⟨g2, 0, none⟩) (some ⟨g3, 0, none⟩) (some ⟨g4, 0, none⟩) 54 54 32 15 15 7 7 40 5 L15 n w5 (by rw [L15_len]; exact hr) (by rw [L15_len]; decide) L15_small L15_neO).mono (R' := fun e w' => e = .returned (.bool true) ∧ Below W2.heap.size W2 w') fun e w' ⟨p, q⟩ => ⟨p, h.trans (q.mono h.size)⟩)
  rw [L15_len] at HMB
  clear HAW HMD HS HI0 HB0 HB1 HBW1 HB2
  go_wp2_with (first
      | (go_at_call 10; (with_reducible refine (HIM.out _ (Below.refl _ _)).mono ?_); rintro e u3 ⟨g1, g2, g3, g4, rfl, hI, hu3⟩)
      | (go_at_call 12; (with_reducible refine (HMB.out _ _ _ _ _ hI hu3).mono ?_); rintro e u4 ⟨rfl, hu4⟩; obtain ⟨-, h0, h1, h2, h3, h4, h5⟩ := HSS.out _ hu4)
      | (go_at_call 12; (with_reducible refine (HMA.out _ hu4).mono ?_); rintro e u5 ⟨rfl, hu5⟩))
  go_ret
  exact ⟨rfl, HBW.out.trans (hu5.mono HBW.out.size)⟩
end Go.Proofs.Ythjfcfhibdpbnaa

namespace Go.Proofs.Ythjfcfhibdpbnaa
open Go.ChangeShapes Go.WideShapes Go.ChangeAt Go.ChangeMaps Go.RowKit

theorem likelyOwn_own : ownKnob Try.prog.godebug = none := by kernel_rfl

set_option maxRecDepth 100000 in
theorem likelyOwn_lifted (os : Os) (started : os.Started) (H : Type) (enc : TypeId × Value → H) :
    ReturnsInHanded {} Try.checked os 4 .any (Rows.likelyOwnSpec.pre6 enc Try.prog Try.f4 Rows.likelyOwnRow.domain false) (Rows.likelyOwnSpec.post enc Try.prog Try.f4 false true false false) := by
  refine returnsInHanded_of_change (C := Try.checked) likelyOwn_own started (by kernel_rfl) Try.func4
    (ChangeSpec.witness6 (enc := enc) (C := Try.checked) false ⟨#[], #[.agg #[.slice none 0 0, .slice none 0 0, .slice none 0 0, .slice none 0 0, .int .i64 0, .int .i64 0, .int .i64 0], .int .i64 0], []⟩ 8 (by kernel_rfl) (by kernel_rfl) (by kernel_rfl) (by kernel_rfl)) ?_
  intro W base args ds gs before hval0 hW _ _
  have hval : ∀ (j : Nat) t v, Try.f4.params[j]? = some t → args[j]? = some v → Value.okWide Try.prog W .any base t v := hval0
  have hW' := hW
  obtain ⟨p, q, hA0, hV, rfl, hfz, hnd⟩ := hW
  have hA : DataW.TrodAll enc Try.prog W 0 (fun _ => true) true Try.f4.params.toList args.toList ds p := hA0
  rw [Try.params4] at hA hval
  obtain ⟨v0, vs0, d0, ds0, p0, q0, hargs, rfl, rfl, h0, r0⟩ := trodAll_cons hA
  obtain ⟨v1, vs1, d1, ds1, p1, q1, rfl, rfl, rfl, h1, r1⟩ := trodAll_cons r0
  obtain ⟨rfl, rfl, rfl⟩ := trodAll_nil r1
  obtain rfl : args = #[v0, v1] := by cases args; simp_all
  obtain ⟨rfl, rfl⟩ := trodVars_none hV
  have k0 := h0
  have lt0 : ∀ x ∈ p0, x.block < W.heap.size := by obtain ⟨m, hm⟩ := k0; exact DataW.trod_lt m _ _ _ hm
  obtain ⟨S0, va0, vl0, vr0, vm0, rfl, w0⟩ := open_seed13 (hval 0 25 v0 rfl rfl) h0
  obtain ⟨a1, rfl, rfl, rfl, w1⟩ := open_int Try.underlying3 (hval 1 3 v1 rfl rfl) h1
  clear hA0 hval0
  refine (likelyOwn_law S0 va0 vl0 vr0 vm0 a1 W w0).mono fun e W' ⟨he, bel⟩ => ?_
  subst he
  exact ⟨_, rfl, _, _, _, [], _, [], hW', trodAll_mk1 (shut_bool Try.underlying4 _), (trodAll_cons_mk (Below.trod laidOut6 (by kernel_rfl) (of_decide_eq_true (by kernel_rfl)) k0 bel lt0) (trodAll_cons_mk (shut_int Try.underlying3 w1) trodAll_mk0)), rfl, bel.frame _, fun h => by cases h⟩

/-- The statement. -/
theorem likelyOwn_holds : Rows.LikelyOwnSaid :=
  OpenClaim.holds_of_wide 4 Try.f4 rfl rfl rfl rfl rfl rfl rfl ⟨rfl, rfl, rfl, rfl, rfl⟩ rfl rfl rfl rfl rfl (by kernel_rfl) Try.func4 (by kernel_rfl)
    (of_decide_eq_true (by kernel_rfl)) (by unfold Func.isWrapper; rw [if_neg (of_decide_eq_false (by kernel_rfl))]; exact ⟨rfl, rfl⟩)
    (fun os started H enc _ => likelyOwn_lifted os started H enc)
end Go.Proofs.Ythjfcfhibdpbnaa
