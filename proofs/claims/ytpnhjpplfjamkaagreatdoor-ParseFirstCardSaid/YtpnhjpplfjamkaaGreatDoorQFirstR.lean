import Derived.Test.YtpnhjpplfjamkaaGreatDoorQFirstD
import Derived.Test.YtpnhjpplfjamkaaGreatDoorGrandR
namespace Go.Proofs.YtpnhjpplfjamkaaGreatDoor
open Go Go.RowKit

set_option maxRecDepth 100000 in
set_option maxHeartbeats 1000000 in
theorem begins_any (s nm : ByteArray) (w : World) (hs : s.size ≤ maxLen) (hn : nm.size ≤ maxLen) :
    Calls Tryz.prog 58 #[.string s, .string nm] w fun e w' => e = .returned (.bool (begS s nm)) ∧ Below w.heap.size w w' := by
  have SM := Lib.hid (fun w5 => same_any (s.extract 0 nm.size) nm w5 (by rw [ByteArray.size_extract]; omega) hn)
  by_cases h1 : nm.size ≤ s.size
  · have h2 : (nm.size : Int) ≤ (s.size : Int) := by omega
    cases hm : sameS (s.extract 0 nm.size) nm with
    | false =>
      rw [hm] at SM
      have HE := Lib.hid (show begS s nm = false by unfold begS; rw [hm]; simp)
      clear hm hs hn
      go_enter Tryz.func58, Tryz.ntmps58
      go_wp2_with (go_at_call 62; (with_reducible refine (SM.out _).mono ?_); rintro e w1 ⟨rfl, hb1⟩)
      go_ret
      exact ⟨ret_bool HE.out.symm, hb1⟩
    | true =>
      rw [hm] at SM
      rcases Nat.lt_or_eq_of_le h1 with h3 | h3
      · have h4 : ((s.size : Int) == (nm.size : Int)) = false := by rw [beq_eq_false_iff_ne]; omega
        have h5 : (nm.size : Int) < (s.size : Int) := by omega
        by_cases hc : s[nm.size] = 45
        · have h6 := (mark_true hc).1
          have HE := Lib.hid (show begS s nm = true by unfold begS; rw [hm, bs_get s _ h3, hc]; simp; omega)
          clear hm hs hn hc
          go_enter Tryz.func58, Tryz.ntmps58
          go_wp2_with (go_at_call 62; (with_reducible refine (SM.out _).mono ?_); rintro e w1 ⟨rfl, hb1⟩)
          go_ret
          exact ⟨ret_bool HE.out.symm, hb1⟩
        · have h6 := (mark_false hc).1
          have HE := Lib.hid (show begS s nm = false by unfold begS; rw [hm, bs_get s _ h3]; simp [hc]; omega)
          clear hm hs hn hc
          go_enter Tryz.func58, Tryz.ntmps58
          go_wp2_with (go_at_call 62; (with_reducible refine (SM.out _).mono ?_); rintro e w1 ⟨rfl, hb1⟩)
          go_ret
          exact ⟨ret_bool HE.out.symm, hb1⟩
      · have h4 : ((s.size : Int) == (nm.size : Int)) = true := by rw [beq_iff_eq]; omega
        have HE := Lib.hid (show begS s nm = true by unfold begS; rw [hm]; simp; omega)
        clear hm hs hn h3 h1
        go_enter Tryz.func58, Tryz.ntmps58
        go_wp2_with (go_at_call 62; (with_reducible refine (SM.out _).mono ?_); rintro e w1 ⟨rfl, hb1⟩)
        go_ret
        exact ⟨ret_bool HE.out.symm, hb1⟩
  · have h2 : ¬ (nm.size : Int) ≤ (s.size : Int) := by omega
    have HE := Lib.hid (show begS s nm = false by unfold begS; rw [decide_eq_false h1]; rfl)
    have h3 : decide ((nm.size : Int) ≤ (s.size : Int)) = false := decide_eq_false h2
    clear hs hn h1 SM
    go_enter Tryz.func58, Tryz.ntmps58
    go_wp2_with fail
    go_ret
    exact ⟨ret_bool HE.out.symm, Below.refl _ _⟩
end Go.Proofs.YtpnhjpplfjamkaaGreatDoor

namespace Go.Proofs.YtpnhjpplfjamkaaGreatDoor
open Go Go.RowKit

attribute [local go_sem] Oper.semAt_some

theorem Row.grownNe {W W' : World} {v : Value} {l : List ByteArray} (h : Row W v l) (hn : ∀ x ∈ l, x.size ≠ 0) {R : Nat} (hR : ∀ k x, W.cell? ⟨R, k, none⟩ = some (.string x) → x.size = 0) (hg : W.grownBy W' (some R)) : Row W' v l := by
  obtain ⟨ao, cap, rfl, hc⟩ := h
  refine ⟨ao, cap, rfl, fun i x hx => ?_⟩
  obtain ⟨g, h1, h2⟩ := hc i x hx
  have hne : g ≠ R := fun e => hn x (List.mem_of_getElem? hx) (hR i x (by rw [← e]; exact h2))
  have hgl : g < W.heap.size := lt_of_cellF h2
  refine ⟨g, h1, ?_⟩
  rw [← h2]
  unfold World.cell?
  rw [hg.block g hgl (fun e => hne (Option.some.inj e))]
theorem TagIs.grownNe {W W' : World} {v : Value} {T : TagM} (h : TagIs W v T) (hn : NeT T) {R : Nat} (hR : ∀ k x, W.cell? ⟨R, k, none⟩ = some (.string x) → x.size = 0) (hg : W.grownBy W' (some R)) : TagIs W' v T := by
  obtain ⟨ve, vv, vx, vp, rfl, h1, h2, ⟨ao, cap, rfl, hc⟩, h4⟩ := h
  obtain ⟨n1, n2, n3, n4⟩ := hn
  refine ⟨ve, vv, _, vp, rfl, h1.grownNe n1 hR hg, h2.grownNe n2 hR hg, ⟨ao, cap, rfl, fun i x hx => ?_⟩, h4.grownNe n4 hR hg⟩
  obtain ⟨g, vs, k1, k2, k3, k4⟩ := hc i x hx
  have hm := n3 x (List.mem_of_getElem? hx)
  have hne : g ≠ R := fun e => hm.1 (hR _ x.1 (by rw [← e]; exact k2))
  have hgl : g < W.heap.size := lt_of_cellF k2
  refine ⟨g, vs, k1, ?_, ?_, k4.grownNe hm.2 hR hg⟩
  · rw [← k2]; unfold World.cell?; rw [hg.block g hgl (fun e => hne (Option.some.inj e))]
  · rw [← k3]; unfold World.cell?; rw [hg.block g hgl (fun e => hne (Option.some.inj e))]
/-- What First holds, while it goes through the names. -/
def FoT (T6 : Nat) (c0 : Array Value) (t0 : TagM) (p : TagM) (W : World) : Prop := (p = t0 ∧ W.heap[T6]? = some (.cells c0 31 (0, 0))) ∨
  ∃ g, p = { pNo with grand := g } ∧ W.heap[T6]? = some (.cells #[.string ⟨#[]⟩, .slice none 0 0, .string ⟨#[]⟩, .string ⟨#[]⟩, .slice none 0 0, .slice none 0 0, .slice none 0 0, .string g] 31 (0, 0))
def FoI (W2 : World) (L T6 E7 : Nat) (s : ByteArray) (c0 : Array Value) (t0 : TagM) (e0 : Nat) (pre : List (Nat × ByteArray)) (W : World) : Prop :=
  Below L W2 W ∧ FoT T6 c0 t0 (foldG s (t0, e0) pre.length).1 W ∧ W.heap[E7]? = some (.cells #[.int .i64 ((foldG s (t0, e0) pre.length).2 : Int)] 3 (0, 0))
theorem FoT.same {T6 : Nat} {c0 : Array Value} {t0 p : TagM} {W W' : World} (h : FoT T6 c0 t0 p W) (he : W'.heap[T6]? = W.heap[T6]?) : FoT T6 c0 t0 p W' :=
  h.imp (fun h => ⟨h.1, he.trans h.2⟩) (fun ⟨g, h1, h2⟩ => ⟨g, h1, he.trans h2⟩)
theorem FoT.shape {T6 L : Nat} {t0 p : TagM} {w1 W : World} {g1 g3 g5 g7 : Option Addr} {g2 g4 g6 g8 : Nat} (h : FoT T6 #[.string t0.lang, .slice g1 t0.extl.length g2, .string t0.script, .string t0.region, .slice g3 t0.vars.length g4, .slice g5 t0.exts.length g6, .slice g7 t0.priv.length g8, .string ByteArray.empty] t0 p W) (hgr : t0.grand = ByteArray.empty)
    (hT : TagIs w1 (.agg #[.string t0.lang, .slice g1 t0.extl.length g2, .string t0.script, .string t0.region, .slice g3 t0.vars.length g4, .slice g5 t0.exts.length g6, .slice g7 t0.priv.length g8, .string ByteArray.empty]) t0) (hL : w1.heap.size = L) :
    ∃ g1 g2 g3 g4 g5 g6 g7 g8, W.heap[T6]? = some (.cells #[.string p.lang, .slice g1 p.extl.length g2, .string p.script, .string p.region, .slice g3 p.vars.length g4, .slice g5 p.exts.length g6, .slice g7 p.priv.length g8, .string p.grand] 31 (0, 0)) ∧
      ∀ W', Below L w1 W' → TagIs W' (.agg #[.string p.lang, .slice g1 p.extl.length g2, .string p.script, .string p.region, .slice g3 p.vars.length g4, .slice g5 p.exts.length g6, .slice g7 p.priv.length g8, .string p.grand]) p := by
  rcases h with ⟨rfl, h⟩ | ⟨g, rfl, h⟩
  · refine ⟨g1, g2, g3, g4, g5, g6, g7, g8, by rw [hgr]; exact h, fun W' hb => ?_⟩
    rw [hgr]
    exact hT.below (hL ▸ hb)
  · exact ⟨none, 0, none, 0, none, 0, none, 0, h, fun W' _ => zero_tagQ W' g⟩
theorem grown_putObj {W : World} {D : Nat} (o : Obj) : W.grownBy (W.putObj D o) (some D) := ⟨rfl, rfl, rfl, by simp [World.putObj], fun k _ hne => World.putObj_heap_other (fun e => hne (by rw [e]))⟩
/-- How First ends. -/
theorem first_end {w W : World} {D : Nat} {a : Act} {cs : Array Value} {S : ByteArray} {R : TagM × ByteArray}
    (hr : W.heap[w.heap.size + 1]? = some (.cells cs 31 (0, 0))) (h1 : W.heap[D]? = some (.deferred (some [])))
    (hw1 : w.heap.size + 1 < D) (hB : Below w.heap.size w W) (hS : S = R.2) (hT : TagIs W (.agg cs) R.1) (hN : NeT R.1) (hz : cs.size = 8)
    (ha : a.defers = [{ target := .collected D, args := #[] }]) (ht : a.tmps.getD 2 undef = .pointer (some ⟨w.heap.size + 1, 0, none⟩)) (ht3 : a.tmps.getD 3 undef = .string S) :
    bodyPostM Fence.wide 0 Tryz.prog Tryz.f33 (fun e w' => ∃ tv, e = .returned (.tuple #[tv, .string R.2]) ∧ TagIs w' tv R.1 ∧ Below w.heap.size w w') .ret a W := by
  have k1 : (W.putObj D (.deferred none)).heap[w.heap.size + 1]? = some (.cells cs 31 (0, 0)) := (World.putObj_heap_other (by omega)).trans hr
  obtain ⟨tmps, defers⟩ := a
  dsimp only at ha ht ht3
  subst ha
  refine ⟨by simp, .inl ⟨_, _, rfl, run_takeDeferred h1, ?_⟩⟩
  refine ⟨.tuple #[.agg cs, .string S], results_cell_tmp rfl _ _ (w.heap.size + 1) 31 cs (0, 0) _ _ ht ht3 k1 Tryz.underlying31 rfl (by rw [tagSize, hz]), ?_⟩
  refine ⟨.agg cs, by rw [hS], hT.grownNe hN (R := D) (fun k x hx => by simp [World.cell?, h1] at hx) (grown_putObj _), ?_⟩
  exact hB.trans (belowK_b (w := w) (Nat.le_refl _) _ D _ (.deferred none) (by omega) h1 rfl rfl)
end Go.Proofs.YtpnhjpplfjamkaaGreatDoor

namespace Go.Proofs.YtpnhjpplfjamkaaGreatDoor
open Go Go.RowKit
attribute [local go_sem] Oper.semAt_some
set_option maxRecDepth 100000 in
theorem all_make (w : World) : Calls Tryz.prog 57 #[] w fun e w' => e = .returned (.func (.func 80) #[] #[]) ∧ w = w' := by
  go_enter Tryz.func57, Tryz.ntmps57
  go_wp2
  go_ret
  exact ⟨rfl, rfl⟩
theorem prefix_gAll {pre : List (Nat × ByteArray)} {x : Nat × ByteArray} (h : pre ++ [x] <+: gAll) : pre.length < 26 ∧ x = (pre.length, nameG pre.length) := by
  obtain ⟨r, hr⟩ := h
  have hl := congrArg List.length hr
  rw [gAll_len] at hl
  simp at hl
  have h1 : pre.length < 26 := by omega
  refine ⟨h1, ?_⟩
  have h2 := congrArg (fun l => l[pre.length]?) hr
  simpa [gAll, h1] using h2
end Go.Proofs.YtpnhjpplfjamkaaGreatDoor

namespace Go.Proofs.YtpnhjpplfjamkaaGreatDoor
open Go Go.RowKit

attribute [local go_sem] Oper.semAt_some

/-- First's code behind its second line. -/
noncomputable def firstRest : Code := match (Tryz.f33).body with
  | some (.seq _ (.seq _ (.seq _ c))) => c
  | _ => .skip

set_option maxRecDepth 100000 in
set_option maxHeartbeats 3200000 in
theorem first_rest {s : ByteArray} {w w1 W2 : World} {st : PSt} {B L1 T6 E7 : Nat} {ev : Value} {ae av ax ap : Option Addr} {ac vc xc pc : Nat} (hs : s.size ≤ 40000) (hst : (readS s).1 = st) (hg2 : GL W2) (hgr : st.T.grand = ByteArray.empty) (HIS : Hid (TagIs w1 (.agg #[.string st.T.lang, .slice ae st.T.extl.length ac, .string st.T.script, .string st.T.region, .slice av st.T.vars.length vc, .slice ax st.T.exts.length xc, .slice ap st.T.priv.length pc, .string ByteArray.empty]) st.T)) (hL1 : w1.heap.size = L1)
    (HB2 : Hid (Below w.heap.size w W2)) (HBW : Hid (Below L1 w1 W2)) (HX2 : Hid (W2.heap[w.heap.size]? = some (.cells #[.string s] 9 (0, 0)))) (HY2 : Hid (W2.heap[w.heap.size + 1]? = some (.cells #[.string ⟨#[]⟩, .slice none 0 0, .string ⟨#[]⟩, .string ⟨#[]⟩, .slice none 0 0, .slice none 0 0, .slice none 0 0, .string ⟨#[]⟩] 31 (0, 0))))
    (hT2 : W2.heap[T6]? = some (.cells #[.string st.T.lang, .slice ae st.T.extl.length ac, .string st.T.script, .string st.T.region, .slice av st.T.vars.length vc, .slice ax st.T.exts.length xc, .slice ap st.T.priv.length pc, .string ByteArray.empty] 31 (0, 0))) (hE2 : W2.heap[E7]? = some (.cells #[.int .i64 (st.last : Int)] 3 (0, 0))) (hTL : L1 ≤ T6 ∧ T6 < W2.heap.size) (hEL : L1 ≤ E7 ∧ E7 < W2.heap.size) (hTE : T6 ≠ E7) (hwL : w.heap.size + 1 < L1) :
    firstRest.wpIn Fence.wide 0 Tryz.prog (bodyPostM Fence.wide 0 Tryz.prog Tryz.f33 (fun e w' => ∃ tv, e = .returned (.tuple #[tv, .string (restS s).2]) ∧ TagIs w' tv (restS s).1 ∧ Below w.heap.size w w'))
      { tmps := #[.string s, .pointer (some ⟨w.heap.size, 0, none⟩), .pointer (some ⟨w.heap.size + 1, 0, none⟩), .string ⟨#[]⟩, .pointer (some ⟨B, 0, none⟩), ev, .pointer (some ⟨T6, 0, none⟩), .pointer (some ⟨E7, 0, none⟩), undef, undef, .tuple #[.pointer (some ⟨B, 0, none⟩), ev], .string s, .tuple #[.pointer (some ⟨B, 0, none⟩), ev], .pointer (some ⟨B, 0, none⟩), ev, .pointer (some ⟨B, 0, none⟩), .pointer (some ⟨B, 0, none⟩), .pointer (some ⟨B, 0, none⟩), .agg #[.string st.T.lang, .slice ae st.T.extl.length ac, .string st.T.script, .string st.T.region, .slice av st.T.vars.length vc, .slice ax st.T.exts.length xc, .slice ap st.T.priv.length pc, .string ByteArray.empty], .pointer (some ⟨B, 0, none⟩), .pointer (some ⟨B, 0, none⟩), .pointer (some ⟨B, 8, none⟩), .int .i64 (st.last : Int), undef, undef, undef, undef, undef, undef, undef, undef, undef, undef, undef, undef, undef, undef, undef, undef, undef, undef, undef, undef, undef, undef, undef, undef, undef, undef, undef, undef, undef, undef, undef], defers := [] } W2 := by
  have HBG := Lib.hid (fun k (hk : k < 26) w5 => begins_any s (nameG k) w5 (by unfold maxLen; omega) (by have := (name_size k hk).2; unfold maxLen; omega))
  have HRS := Lib.hid (show restS s = if (firstP s).2 = 0 then (pNo, s) else ((firstP s).1, s.extract (min ((firstP s).2 + 1) s.size) s.size) from rfl)
  have HF := Lib.hid (first_ok s).2
  have HFP := Lib.hid (show firstP s = foldG s ((readS s).1.T, (readS s).1.last) 26 from rfl)
  generalize restS s = RS at *
  generalize firstP s = FP at *
  conv => arg 4; whnf
  gi_wp2_with fail
  refine ⟨trivial, rfl, CallsIn.mono (callsIn_wide.2 (all_make W2)) ?_⟩
  rintro e w' ⟨rfl, rfl⟩
  gi_wp2_with fail
  have hseq := all_seq (fr := fun _ => false) (q := fun j => j < L1) hg2
  clear hg2
  refine rangeQ (gf := 80) (lb := #[]) rfl (Go.Proofs.enters_of Tryz.func80 (by kernel_rfl) rfl) hseq (fun _ h => by cases h) (fun j h => by omega) (fun _ => rfl)
    (FoI W2 L1 T6 E7 s #[.string st.T.lang, .slice ae st.T.extl.length ac, .string st.T.script, .string st.T.region, .slice av st.T.vars.length vc, .slice ax st.T.exts.length xc, .slice ap st.T.priv.length pc, .string ByteArray.empty] st.T st.last) (fun _ _ _ => False)
    (fun s A B row hs hg hr => ⟨ownFrom_below (β := Unit) (by omega) (by omega) () A B row hs.1 hg hr, hs.2.1.imp (fun h => ⟨h.1, ownFrom_block (β := Unit) (by omega) () A B row h.2 hg hr⟩) (fun ⟨g, h1, h2⟩ => ⟨g, h1, ownFrom_block (β := Unit) (by omega) () A B row h2 hg hr⟩), ownFrom_block (β := Unit) (by omega) () A B row hs.2.2 hg hr⟩)
    (fun _ _ _ _ _ hs _ _ => hs.elim)
    ⟨Below.refl _ _, .inl ⟨rfl, hT2⟩, hE2⟩
    (fun y => { tmps := #[.string s, .pointer (some ⟨w.heap.size, 0, none⟩), .pointer (some ⟨w.heap.size + 1, 0, none⟩), .string ⟨#[]⟩, .pointer (some ⟨B, 0, none⟩), ev, .pointer (some ⟨T6, 0, none⟩), .pointer (some ⟨E7, 0, none⟩), undef, .string y.2, .tuple #[.pointer (some ⟨B, 0, none⟩), ev], .string s, .tuple #[.pointer (some ⟨B, 0, none⟩), ev], .pointer (some ⟨B, 0, none⟩), ev, .pointer (some ⟨B, 0, none⟩), .pointer (some ⟨B, 0, none⟩), .pointer (some ⟨B, 0, none⟩), .agg #[.string st.T.lang, .slice ae st.T.extl.length ac, .string st.T.script, .string st.T.region, .slice av st.T.vars.length vc, .slice ax st.T.exts.length xc, .slice ap st.T.priv.length pc, .string ByteArray.empty], .pointer (some ⟨B, 0, none⟩), .pointer (some ⟨B, 0, none⟩), .pointer (some ⟨B, 8, none⟩), .int .i64 (st.last : Int), .func (.func 80) #[] #[], .int .i64 y.1, .string y.2, undef, undef, undef, undef, undef, undef, undef, undef, undef, undef, undef, undef, undef, undef, undef, undef, undef, undef, undef, undef, undef, undef, undef, undef, undef, undef, undef, undef], defers := [] })
    ?assign ?body ?done ?stop
  case assign =>
    intro l' y W3 K hK
    gi_wp2
    exact hK
  case stop =>
    rintro D c pre W3 hD hpre h hK
    exact h.elim
  case body =>
    rintro l' pre x W3 ⟨hbl, hT3, hE3⟩ hpre hsz3
    obtain ⟨hk, rfl⟩ := prefix_gAll hpre
    have HN := Lib.hid (show ∀ y : Nat × ByteArray, foldG s (st.T, st.last) (pre ++ [y]).length = stepG s (foldG s (st.T, st.last) pre.length) (nameG pre.length) from fun y => by rw [List.length_append]; rfl)
    obtain ⟨p, hp⟩ : ∃ p, foldG s (st.T, st.last) pre.length = p := ⟨_, rfl⟩
    have BG := Lib.hid (HBG.out pre.length hk)
    rw [hp] at hT3 hE3 HN
    have hx3 := (hbl.block _ (by omega)).trans HX2.out
    have c0 := cell_of_one hx3
    have c1 := cell_of_one hE3
    have HBL := Lib.hid hbl
    have HT3 := Lib.hid hT3
    have HE3 := Lib.hid hE3
    have HX3 := Lib.hid hx3
    obtain ⟨nm, hnm⟩ : ∃ t, nameG pre.length = t := ⟨_, rfl⟩
    rw [hnm] at HN BG
    have hlT : T6 < W3.heap.size := by have := hbl.size; omega
    have hlE := lt_of_block hE3
    clear hbl hT3 hE3 hx3 hpre hseq hp hk
    dsimp only
    rw [hnm]
    clear hnm
    by_cases h1 : p.2 ≤ nm.size
    · have h1i : (p.2 : Int) ≤ (nm.size : Int) := by omega
      cases hbg : begS s nm with
      | false =>
        rw [hbg] at BG
        have HS := Lib.hid (show stepG s p nm = p by unfold stepG; rw [if_neg (by rw [hbg]; simp)])
        clear h1 hbg
        gi_wp2_with fail
        refine ⟨trivial, rfl, CallsIn.mono (callsIn_wide.2 (BG.out W3)) ?_⟩
        rintro e w5 ⟨rfl, hb5⟩
        gi_wp2_with fail
        refine ⟨KeepQ.of_below hb5, HBL.out.trans (hb5.mono (by omega)), ?_, ?_⟩
        · rw [HN.out, HS.out]; exact HT3.out.same (hb5.block _ hlT)
        · rw [HN.out, HS.out]; exact (hb5.block _ hlE).trans HE3.out
      | true =>
        rw [hbg] at BG
        have HS := Lib.hid (show stepG s p nm = ({ pNo with grand := nm }, nm.size) by unfold stepG; rw [if_pos ⟨h1, hbg⟩])
        clear h1 hbg
        gi_wp2_with fail
        refine ⟨trivial, rfl, CallsIn.mono (callsIn_wide.2 (BG.out W3)) ?_⟩
        rintro e w5 ⟨rfl, hb5⟩
        obtain ⟨g1, g2, g3, g4, g5, g6, g7, g8, hT5, -⟩ := (HT3.out.same (hb5.block _ hlT)).shape (L := L1) hgr HIS.out hL1
        have hE5 := (hb5.block _ hlE).trans HE3.out
        have hl5 : T6 < w5.heap.size := by have := hb5.size; omega
        obtain ⟨k0, k1, k2, k3, k4, k5, k6, k7⟩ := tag_cells hT5
        have z0 := cells_frozen 0 hT5
        have z1 := cells_frozen 1 hT5
        have z2 := cells_frozen 2 hT5
        have z3 := cells_frozen 3 hT5
        have z4 := cells_frozen 4 hT5
        have z5 := cells_frozen 5 hT5
        have z6 := cells_frozen 6 hT5
        have z7 := cells_frozen 7 hT5
        have q0 := cell_of_one hE5
        have q1 := free_of_one hE5
        obtain ⟨hk1, hk2⟩ := tag_store hT5 (.string ⟨#[]⟩) (.slice none 0 0) (.string ⟨#[]⟩) (.string ⟨#[]⟩) (.slice none 0 0) (.slice none 0 0) (.slice none 0 0) (.string nm)
        have HK1 := Lib.hid hk1
        have HK2 := Lib.hid hk2
        have HE5 := Lib.hid hE5
        clear hT5 hE5 hk1 hk2
        gi_wp2_with fail
        have hB5 : Below L1 W2 w5 := HBL.out.trans (hb5.mono (by omega))
        refine ⟨(KeepQ.of_below hb5).trans ((KeepQ.grown HK2.out (fun r e => by cases e; exact ⟨by omega, .inl (by omega)⟩)).trans (KeepQ.setCell _ _ _ _ (p := ⟨E7, 0, none⟩) _ (fun h => by have : E7 < L1 := h; omega) (by show E7 < W2.heap.size; omega))),
          (hB5.grown HK2.out (by omega) (fun r e => by cases e; omega)).setCell (p := ⟨E7, 0, none⟩) (by show L1 ≤ E7; omega) _, ?_, ?_⟩
        · rw [HN.out, HS.out]
          exact .inr ⟨nm, rfl, (Below.heap_setCell _ _ _ _ (by show T6 ≠ E7; omega)).trans HK1.out⟩
        · rw [HN.out, HS.out]
          exact one_setCell ((HK2.out.block E7 (by have := hb5.size; omega) (fun e => hTE (Option.some.inj e).symm)).trans HE5.out)
    · have HS := Lib.hid (show stepG s p nm = p by unfold stepG; rw [if_neg (fun h => h1 h.1)])
      have H1 := Lib.hid h1
      clear h1
      gi_wp2_with fail
      refine ⟨trivial, ?_⟩
      gi_wp2_with fail
      refine ⟨KeepQ.refl _ _ _ _, HBL.out, ?_, ?_⟩
      · rw [HN.out, HS.out]; exact HT3.out
      · rw [HN.out, HS.out]; exact HE3.out
  case done =>
    rintro D ys W3 hD rfl ⟨hbl, hT3, hE3⟩ hK
    rw [gAll_len, ← hst] at hT3 hE3
    rw [← HFP.out] at hT3 hE3
    obtain ⟨g1, g2, g3, g4, g5, g6, g7, g8, hT4, hTI⟩ := (hst ▸ hT3 : FoT T6 #[.string st.T.lang, .slice ae st.T.extl.length ac, .string st.T.script, .string st.T.region, .slice av st.T.vars.length vc, .slice ax st.T.exts.length xc, .slice ap st.T.priv.length pc, .string ByteArray.empty] st.T FP.1 W3).shape (L := L1) hgr HIS.out hL1
    obtain ⟨T, en⟩ := FP
    dsimp only at hT4 hTI hE3 HF HRS
    have hx3 := (hbl.block _ (by omega)).trans HX2.out
    have hy3 := (hbl.block _ (by omega)).trans HY2.out
    have c0 := cell_of_one hx3
    have c1 := cell_of_one hE3
    obtain ⟨k0, k1, k2, k3, k4, k5, k6, k7⟩ := tag_cells hT4
    obtain ⟨r0, r1, r2, r3, r4, r5, r6, r7⟩ := tag_cells hy3
    have z0 := cells_frozen 0 hy3
    have z1 := cells_frozen 1 hy3
    have z2 := cells_frozen 2 hy3
    have z3 := cells_frozen 3 hy3
    have z4 := cells_frozen 4 hy3
    have z5 := cells_frozen 5 hy3
    have z6 := cells_frozen 6 hy3
    have z7 := cells_frozen 7 hy3
    have HB3 := Lib.hid (HB2.out.trans (hbl.mono (by omega)))
    have HTI := Lib.hid (hTI W3 (HBW.out.trans hbl))
    have HY3 := Lib.hid hy3
    have HK := Lib.hid hK
    have hDL : W2.heap.size ≤ D := by omega
    clear hbl hT3 hE3 hx3 hy3 hT4 hTI hK hseq hT2 hE2
    by_cases he : en = 0
    · have hz : ((en : Int) == 0) = true := by rw [beq_iff_eq]; omega
      have HE := Lib.hid he
      clear he
      gi_wp2_with fail
      gi_region
      all_goals
        gi_wp2_with fail
        obtain ⟨hk1, hk2⟩ := tag_store HY3.out (.string ⟨#[]⟩) (.slice none 0 0) (.string ⟨#[]⟩) (.string ⟨#[]⟩) (.slice none 0 0) (.slice none 0 0) (.slice none 0 0) (.string ⟨#[]⟩)
        obtain ⟨WX, hWX⟩ : ∃ x, ((((((((W3.setCell ⟨w.heap.size + 1, 0, none⟩ (.string ⟨#[]⟩)).setCell ⟨w.heap.size + 1, 1, none⟩ (.slice none 0 0)).setCell ⟨w.heap.size + 1, 2, none⟩ (.string ⟨#[]⟩)).setCell ⟨w.heap.size + 1, 3, none⟩ (.string ⟨#[]⟩)).setCell ⟨w.heap.size + 1, 4, none⟩ (.slice none 0 0)).setCell ⟨w.heap.size + 1, 5, none⟩ (.slice none 0 0)).setCell ⟨w.heap.size + 1, 6, none⟩ (.slice none 0 0)).setCell ⟨w.heap.size + 1, 7, none⟩ (.string ⟨#[]⟩)) = x := ⟨_, rfl⟩
        rw [hWX] at hk1 hk2 ⊢
        clear hWX
        have hBk : Below w.heap.size w WX.drew := (HB3.out.grown hk2 HB3.out.size (fun r e => by cases e; omega)).drew
        have hTk : TagIs WX.drew (.agg #[.string ⟨#[]⟩, .slice none 0 0, .string ⟨#[]⟩, .string ⟨#[]⟩, .slice none 0 0, .slice none 0 0, .slice none 0 0, .string ⟨#[]⟩]) RS.1 := by rw [HRS.out, if_pos HE.out]; exact pNo_is _
        have hk1' : WX.drew.heap[w.heap.size + 1]? = _ := hk1
        have hkD : WX.drew.heap[D]? = _ := (hk2.block D (lt_of_heap HK.out) (fun e => by have := Option.some.inj e; omega)).trans HK.out
        exact first_end (W := WX.drew) hk1' hkD (by omega) hBk (by rw [HRS.out, if_pos HE.out]) hTk (by rw [HRS.out, if_pos HE.out]; exact pNo_ne) rfl rfl rfl rfl
    · have hz : ((en : Int) == 0) = false := by rw [beq_eq_false_iff_ne]; omega
      have HE := Lib.hid he
      obtain ⟨hbn, hps⟩ := HF.out (by omega)
      have HNE := Lib.hid (parse_ne hps)
      have hen := hbn.2.1
      clear he hbn hps
      by_cases hn : en = s.size
      · have hz2 : ((en : Int) == (s.size : Int)) = true := by rw [beq_iff_eq]; omega
        have HN := Lib.hid (show min (en + 1) s.size = s.size by omega)
        have HEMP := Lib.hid (show (⟨#[]⟩ : ByteArray) = s.extract s.size s.size by rw [← ofL_bs (s.extract s.size s.size), bs_extract, Nat.sub_self]; rfl)
        clear hn hen
        gi_wp2_with fail
        obtain ⟨hk1, hk2⟩ := tag_store HY3.out (.string T.lang) (.slice g1 T.extl.length g2) (.string T.script) (.string T.region) (.slice g3 T.vars.length g4) (.slice g5 T.exts.length g6) (.slice g7 T.priv.length g8) (.string T.grand)
        obtain ⟨WX, hWX⟩ : ∃ x, ((((((((W3.setCell ⟨w.heap.size + 1, 0, none⟩ (.string T.lang)).setCell ⟨w.heap.size + 1, 1, none⟩ (.slice g1 T.extl.length g2)).setCell ⟨w.heap.size + 1, 2, none⟩ (.string T.script)).setCell ⟨w.heap.size + 1, 3, none⟩ (.string T.region)).setCell ⟨w.heap.size + 1, 4, none⟩ (.slice g3 T.vars.length g4)).setCell ⟨w.heap.size + 1, 5, none⟩ (.slice g5 T.exts.length g6)).setCell ⟨w.heap.size + 1, 6, none⟩ (.slice g7 T.priv.length g8)).setCell ⟨w.heap.size + 1, 7, none⟩ (.string T.grand)) = x := ⟨_, rfl⟩
        rw [hWX] at hk1 hk2 ⊢
        clear hWX
        have hBk : Below w.heap.size w WX := (HB3.out.grown hk2 HB3.out.size (fun r e => by cases e; omega))
        have hTk : TagIs WX (.agg #[.string T.lang, .slice g1 T.extl.length g2, .string T.script, .string T.region, .slice g3 T.vars.length g4, .slice g5 T.exts.length g6, .slice g7 T.priv.length g8, .string T.grand]) RS.1 := by rw [HRS.out, if_neg HE.out]; exact HTI.out.grownNe HNE.out (no_texts HY3.out (fun v hv x hx => by subst hx; simp at hv; subst hv; rfl)) hk2
        have hk1' : WX.heap[w.heap.size + 1]? = _ := hk1
        have hkD : WX.heap[D]? = _ := (hk2.block D (lt_of_heap HK.out) (fun e => by have := Option.some.inj e; omega)).trans HK.out
        exact first_end (W := WX) hk1' hkD (by omega) hBk (by rw [HRS.out, if_neg HE.out, HN.out]; exact HEMP.out) hTk (by rw [HRS.out, if_neg HE.out]; exact HNE.out) rfl rfl rfl rfl
      · have hz2 : ((en : Int) == (s.size : Int)) = false := by rw [beq_eq_false_iff_ne]; omega
        have HN := Lib.hid (show min (en + 1) s.size = en + 1 by omega)
        have hb1 : (en : Int) + 1 ≤ (s.size : Int) := by omega
        have hb0 : (0 : Int) ≤ (en : Int) := by omega
        have hb2 : (0 : Int) ≤ (en : Int) + 1 := by omega
        clear hn hen
        gi_wp2_with fail
        gi_region
        all_goals
          gi_wp2_with fail
          obtain ⟨hk1, hk2⟩ := tag_store HY3.out (.string T.lang) (.slice g1 T.extl.length g2) (.string T.script) (.string T.region) (.slice g3 T.vars.length g4) (.slice g5 T.exts.length g6) (.slice g7 T.priv.length g8) (.string T.grand)
          obtain ⟨WX, hWX⟩ : ∃ x, ((((((((W3.setCell ⟨w.heap.size + 1, 0, none⟩ (.string T.lang)).setCell ⟨w.heap.size + 1, 1, none⟩ (.slice g1 T.extl.length g2)).setCell ⟨w.heap.size + 1, 2, none⟩ (.string T.script)).setCell ⟨w.heap.size + 1, 3, none⟩ (.string T.region)).setCell ⟨w.heap.size + 1, 4, none⟩ (.slice g3 T.vars.length g4)).setCell ⟨w.heap.size + 1, 5, none⟩ (.slice g5 T.exts.length g6)).setCell ⟨w.heap.size + 1, 6, none⟩ (.slice g7 T.priv.length g8)).setCell ⟨w.heap.size + 1, 7, none⟩ (.string T.grand)) = x := ⟨_, rfl⟩
          rw [hWX] at hk1 hk2 ⊢
          clear hWX
          have hBk : Below w.heap.size w WX.drew := (HB3.out.grown hk2 HB3.out.size (fun r e => by cases e; omega)).drew
          have hTk : TagIs WX.drew (.agg #[.string T.lang, .slice g1 T.extl.length g2, .string T.script, .string T.region, .slice g3 T.vars.length g4, .slice g5 T.exts.length g6, .slice g7 T.priv.length g8, .string T.grand]) RS.1 := by rw [HRS.out, if_neg HE.out]; exact TagIs.below (HTI.out.grownNe HNE.out (no_texts HY3.out (fun v hv x hx => by subst hx; simp at hv; subst hv; rfl)) hk2) (Below.refl WX.heap.size WX).drew
          have hk1' : WX.drew.heap[w.heap.size + 1]? = _ := hk1
          have hkD : WX.drew.heap[D]? = _ := (hk2.block D (lt_of_heap HK.out) (fun e => by have := Option.some.inj e; omega)).trans HK.out
          exact first_end (W := WX.drew) hk1' hkD (by omega) hBk (by rw [HRS.out, if_neg HE.out, HN.out]) hTk (by rw [HRS.out, if_neg HE.out]; exact HNE.out) rfl rfl rfl rfl
end Go.Proofs.YtpnhjpplfjamkaaGreatDoor
