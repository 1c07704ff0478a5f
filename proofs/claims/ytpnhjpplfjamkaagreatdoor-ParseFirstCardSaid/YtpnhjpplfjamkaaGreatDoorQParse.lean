/-
  The document's Parse (isoglossref07) of any text. (Printed by wip/gen_qparse.py.)
-/
import Derived.Test.YtpnhjpplfjamkaaGreatDoorQTag
import Derived.Test.YtpnhjpplfjamkaaGreatDoorQParM
import Derived.Test.YtpnhjpplfjamkaaGreatDoorGrandR
import Derived.Test.YtpnhjpplfjamkaaGreatDoorMClone
import Derived.Deep.RegionLaw
import Derived.Deep.RegionHeld3
import Derived.Deep.AppendLies
import Derived.Deep.CutRange
import Derived.Laws.Tables
import Derived.BigQuiet
import Derived.Deep.QuietTactic
namespace Go.Proofs.YtpnhjpplfjamkaaGreatDoor
open Go Go.RowKit

def atK (B : Nat) (w : World) : Nat := match w.cell? ⟨B, 1, none⟩ with
  | some (.int _ n) => n.toNat
  | _ => 0
theorem atK_rd {w : World} {B g cap k : Nat} {s : ByteArray} (h : RefRd w B g cap s k) : atK B w = k := by
  unfold atK
  rw [h.cells.2.1]
  simp
/-- What the document's parser answers. -/
def GotR (W : World) (v : Value) (r : TagM × Option PErr) : Prop :=
  (∃ x, r = (pNo, some x) ∧ v = gotV x) ∨ (∃ t ve vv vx vp, r = (t, none) ∧ v = .agg #[.string t.lang, ve, .string t.script, .string t.region, vv, vx, vp, .string t.grand, .int .i64 0, .int .i64 0, .string ⟨#[]⟩] ∧ TagIs W (.agg #[.string t.lang, ve, .string t.script, .string t.region, vv, vx, vp, .string t.grand]) t)
theorem below_setRowQ {n g : Nat} {W W' : World} (h : Below n W W') (hg : n ≤ g) (cs : Array Value) : Below n W (W'.setRow g cs) :=
  h.trans ⟨rfl, rfl, rfl, by simp [World.setRow], fun k hk => setRow_other W' g k cs (by omega)⟩
theorem grown_setRowQ (W : World) (g : Nat) (cs : Array Value) : W.grownBy (W.setRow g cs) (some g) := ⟨rfl, rfl, rfl, by simp [World.setRow], fun k _ hne => setRow_other W g k cs (fun e => hne (by rw [e]))⟩
theorem zero_tagQ (W : World) (l : ByteArray) : TagIs W (.agg #[.string ByteArray.empty, .slice none 0 0, .string ByteArray.empty, .string ByteArray.empty, .slice none 0 0, .slice none 0 0, .slice none 0 0, .string l]) { pNo with grand := l } :=
  ⟨_, _, _, _, rfl, ⟨none, 0, rfl, fun i x h => by simp [pNo] at h⟩, ⟨none, 0, rfl, fun i x h => by simp [pNo] at h⟩, ⟨none, 0, rfl, fun i x h => by simp [pNo] at h⟩, ⟨none, 0, rfl, fun i x h => by simp [pNo] at h⟩⟩
theorem same_boolQ (a b : ByteArray) : (a.toList == b.toList) = decide (a = b) := by
  by_cases h : a = b
  · subst h; simp
  · rw [decide_eq_false h]; exact toList_ne h
theorem owned_pos {w : World} {B : Nat} {e : TypeId} {sz : Nat} {v : Value} {n : Nat} {xs : List Value} (h : w.ownsRow B e sz v n xs) (hn : n ≠ 0) : ∃ g cap, v = .slice (some ⟨g, 0, none⟩) n cap := by
  rcases owned_cases h with ⟨-, h0⟩ | h
  · exact absurd h0 hn
  · exact h
theorem TgI.start {w : World} {N T : Nat} (hb : w.heap[T]? = some (.cells #[.string ⟨#[]⟩, .slice none 0 0, .string ⟨#[]⟩, .string ⟨#[]⟩, .slice none 0 0, .slice none 0 0, .slice none 0 0, .string ⟨#[]⟩] 31 (0, 0))) (hN : N ≤ w.heap.size) : TgI w N T pNo (.slice none 0 0) (.slice none 0 0) (.slice none 0 0) (.slice none 0 0) [] := by
  refine ⟨hb, hN, ⟨fun x hx => ?_, ?_⟩, World.ownsRow_nil _ _ _ _, rfl⟩
  · have e : x = (.slice none 0 0, []) := by simpa [tgRows, pNo] using hx
    subst e
    exact World.ownsRow_nil _ _ _ _
  · simp [tgRows, pNo, Far, Value.ownBlock]
theorem row_atQ {W : World} {N n vc : Nat} {va : Option Addr} {l : List ByteArray} (h : W.ownsRow N 9 1 (.slice va n vc) l.length (strs l)) {j : Nat} {x : ByteArray} (hx : l[j]? = some x) : ∃ gv, va = some ⟨gv, 0, none⟩ ∧ ∀ W', Below W.heap.size W W' → W'.cell? ⟨gv, j, none⟩ = some (.string x) := by
  obtain ⟨ao, c0, e0, hc⟩ := Row.of_own h
  injection e0 with e1 _ _
  subst e1
  obtain ⟨gv, e2, hcx⟩ := hc j x hx
  subst e2
  exact ⟨gv, rfl, fun W' hb => (hb.cell (p := ⟨gv, j, none⟩) (h.lt gv rfl).2).trans hcx⟩
theorem ext_atQ {W : World} {N T n vc : Nat} {va : Option Addr} {t : TagM} {ve vv vp : Value} {us : List Value} (h : TgI W N T t ve vv (.slice va n vc) vp us) {j : Nat} {x : ByteArray × List ByteArray} (hx : t.exts[j]? = some x) : ∃ gv, va = some ⟨gv, 0, none⟩ ∧ ∀ W', Below W.heap.size W W' → W'.cell? ⟨gv, j * 2, none⟩ = some (.string x.1) := by
  have hE : ExtRow W (.slice va n vc) t.exts := ExtO.row ⟨us, h.ul, h.x, fun i u x hu hx => h.r.1 (u, x.2) (List.mem_append_right _ (List.mem_of_getElem? (i := i) (by
    rw [List.getElem?_zip_eq_some]
    exact ⟨hu, by rw [List.getElem?_map, hx]; rfl⟩)))⟩
  obtain ⟨ao, c0, e0, hc⟩ := hE
  injection e0 with e1 _ _
  subst e1
  obtain ⟨gv, vs, e2, hcx, -⟩ := hc j x hx
  subst e2
  exact ⟨gv, rfl, fun W' hb => (hb.cell (p := ⟨gv, j * 2, none⟩) (h.x.lt gv rfl).2).trans hcx⟩
/-- A block behind all the rows is turned. -/
theorem PaI.keptX {w0 w w' : World} {N R B T g cap : Nat} {s : ByteArray} {k : Nat} {t : TagM} {ve vv vx vp : Value} {us : List Value} (h : PaI w0 w N R B T g cap s k t ve vv vx vp us) (o : OrdP w0 N R B T g) {X : Nat} (hX : N ≤ X) (hg : w.grownBy w' (some X))
    (h1 : ∀ x ∈ tgRows t ve vv vp us, ∀ b, x.1.ownBlock = some b → b < X) (h2 : ∀ b, vx.ownBlock = some b → b < X) : PaI w0 w' N R B T g cap s k t ve vv vx vp us := by
  have a1 := o.r0; have a2 := o.rg; have a3 := o.gb; have a4 := o.bt; have a5 := o.tn
  refine ⟨h.rd.kept hg (fun e => by have := Option.some.inj e; omega) (fun e => by have := Option.some.inj e; omega), ⟨(hg.block T (lt_of_heap h.tg.hb) (fun e => by have := Option.some.inj e; omega)).trans h.tg.hb, Nat.le_trans h.tg.nh hg.size, h.tg.r.kept hg (fun x hx b e1 e2 => by have := h1 x hx b e1; have := Option.some.inj e2; omega), h.tg.x.kept hg (by
    cases hv : vx.ownBlock with
    | none => exact .inl rfl
    | some b => exact .inr (fun e => by have := h2 b hv; have := Option.some.inj e; omega)), h.tg.ul⟩, (hg.block R (lt_of_heap h.rb) (fun e => by have := Option.some.inj e; omega)).trans h.rb, below_grown h.fr hg (by omega), h.le⟩

set_option maxRecDepth 1000000 in
set_option maxHeartbeats 16000000 in
theorem parse_ref (s : ByteArray) (w : World) (hs : s.size ≤ 1048576) :
    Calls Tryz.prog 28 #[.string s] w fun e w' => ∃ v, e = .returned v ∧ GotR w' v (parseS s) ∧ Below w.heap.size w w' := by
  obtain ⟨i0, hii, iz0, iz1, iz2⟩ := info_parts stringInfo
  obtain ⟨i1, hi1, jz0, jz1, jz2⟩ := info_parts extInfoM
  obtain ⟨W1, hW1⟩ : ∃ x, w.alloc (.cells #[.string ⟨#[]⟩, .slice none 0 0, .string ⟨#[]⟩, .string ⟨#[]⟩, .slice none 0 0, .slice none 0 0, .slice none 0 0, .string ⟨#[]⟩, .int .i64 0, .int .i64 0, .string ⟨#[]⟩] 54) = x := ⟨_, rfl⟩
  have hb1 : Below w.heap.size w W1 := by rw [← hW1]; exact (Below.refl _ w).alloc (Nat.le_refl _) _
  have hR1 : W1.heap[w.heap.size]? = some (.cells #[.string ⟨#[]⟩, .slice none 0 0, .string ⟨#[]⟩, .string ⟨#[]⟩, .slice none 0 0, .slice none 0 0, .slice none 0 0, .string ⟨#[]⟩, .int .i64 0, .int .i64 0, .string ⟨#[]⟩] 54 (0, 0)) := by rw [← hW1]; exact World.alloc_heap_new w _
  have FI := Lib.hid (find5_big s W1 (by omega))
  have HLR := Lib.hid (lt_of_heap hR1)
  have HR1 := Lib.hid hR1
  have HB1 := Lib.hid hb1
  have HW1 := Lib.hid hW1
  clear hR1 hb1 hW1
  have hpl : (pieces s).length ≤ 1048577 := by have := splS_le s; rw [pieces_length]; omega
  have hpp : (pieces s).length ≠ 0 := by have := splS_pos s; rw [pieces_length]; omega
  cases hf : findV s with
  | some k =>
    have HP := Lib.hid (show parseS s = ({ pNo with grand := lowS s }, none) by unfold parseS; rw [hf]; rfl)
    have LO := Lib.hid (fun w5 => lower_ref s w5 (by omega))
    rw [numV_some hf] at FI
    clear hf hpl hpp
    have hk0 : (0 : Int) ≤ (k : Int) := by omega
    generalize lowS s = lx at *
    go_enter Tryz.func28, Tryz.ntmps28
    go_upto_region 1 with fail
    rw [HW1.out]
    go_wp2_with (first | (go_at_call 43; (with_reducible refine FI.out.mono ?_); rintro e w2 ⟨rfl, hb2⟩; have HR2 := Lib.hid ((hb2.block _ HLR.out).trans HR1.out); have HB2 := Lib.hid (HB1.out.trans (hb2.mono HB1.out.size)); clear hb2) | (go_at_call 44; (with_reducible refine (LO.out _).mono ?_); rintro e w3 ⟨rfl, hb3⟩; have HR3 := Lib.hid ((hb3.block _ (lt_of_heap HR2.out)).trans HR2.out); have HB3 := Lib.hid (HB2.out.trans (hb3.mono HB2.out.size)); clear hb3) | (refine wpList_store_row rfl _ _ _ rfl _ _ rfl rfl _ _ HR3.out gotSize rfl (by simp [Value.oneCell']) ?_))
    refine bodyPost_ret (results_cell_row rfl _ _ w.heap.size 54 #[.string ⟨#[]⟩, .slice none 0 0, .string ⟨#[]⟩, .string ⟨#[]⟩, .slice none 0 0, .slice none 0 0, .slice none 0 0, .string lx, .int .i64 0, .int .i64 0, .string ⟨#[]⟩] (0, 0) _ rfl (setRow_heap _ _ _ _ _ _ HR3.out) Tryz.underlying54 rfl gotSize) rfl ?_
    exact ⟨_, rfl, by rw [HP.out]; exact .inr ⟨_, _, _, _, _, rfl, rfl, zero_tagQ _ _⟩, below_setRowQ HB3.out (Nat.le_refl _) _⟩
  | none =>
    have HP := Lib.hid (show parseS s = outP (readS s) by unfold parseS; rw [hf]; rfl)
    have EA := Lib.hid (fun w5 => each_ref s w5 hs)
    rw [numV_none hf] at FI
    clear hf
    go_enter Tryz.func28, Tryz.ntmps28
    go_upto_region 1 with fail
    rw [HW1.out]
    go_upto_region 4 with (first | (go_at_call 43; (with_reducible refine FI.out.mono ?_); rintro e w2 ⟨rfl, hb2⟩; have HR2 := Lib.hid ((hb2.block _ HLR.out).trans HR1.out); have HB2 := Lib.hid (HB1.out.trans (hb2.mono HB1.out.size)); clear hb2) | (go_at_call 45; (with_reducible refine (EA.out _).mono ?_); rintro e w3 ⟨u, rfl, ho, hb3⟩; obtain ⟨g, cap, rfl⟩ := owned_pos ho hpp))
    have hpc := own_pieces ho
    obtain ⟨hg1, hg2⟩ := ho.lt g rfl
    obtain ⟨W4, hW4⟩ : ∃ x, w3.alloc (.cells #[.slice (some ⟨g, 0, none⟩) (pieces s).length cap, .int .i64 0, .int .i64 (s.size : Int)] 91) = x := ⟨_, rfl⟩
    have hb4 : Below w3.heap.size w3 W4 := by rw [← hW4]; exact (Below.refl _ _).alloc (Nat.le_refl _) _
    have hB4 : W4.heap[w3.heap.size]? = some (.cells #[.slice (some ⟨g, 0, none⟩) (pieces s).length cap, .int .i64 0, .int .i64 (s.size : Int)] 91 (0, 0)) := by rw [← hW4]; exact World.alloc_heap_new _ _
    rw [hW4]
    clear hW4
    go_upto_region 5 with fail
    obtain ⟨W5, hW5⟩ : ∃ x, W4.alloc (.cells #[.string ⟨#[]⟩, .slice none 0 0, .string ⟨#[]⟩, .string ⟨#[]⟩, .slice none 0 0, .slice none 0 0, .slice none 0 0, .string ⟨#[]⟩] 31) = x := ⟨_, rfl⟩
    have hb5 : Below W4.heap.size W4 W5 := by rw [← hW5]; exact (Below.refl _ _).alloc (Nat.le_refl _) _
    have hT5 : W5.heap[W4.heap.size]? = some (.cells #[.string ⟨#[]⟩, .slice none 0 0, .string ⟨#[]⟩, .string ⟨#[]⟩, .slice none 0 0, .slice none 0 0, .slice none 0 0, .string ⟨#[]⟩] 31 (0, 0)) := by rw [← hW5]; exact World.alloc_heap_new _ _
    rw [hW5]
    clear hW5
    have hRW : W5.heap[w.heap.size]? = some (.cells ZGOT 54 (0, 0)) := (hb5.block _ (Nat.lt_of_lt_of_le (lt_of_heap HR2.out) (Nat.le_trans hb3.size hb4.size))).trans ((hb4.block _ (Nat.lt_of_lt_of_le (lt_of_heap HR2.out) hb3.size)).trans ((hb3.block _ (lt_of_heap HR2.out)).trans HR2.out))
    have hBW : Below w.heap.size w W5 := ((HB2.out.trans (hb3.mono HB2.out.size)).trans (hb4.mono (Nat.le_trans HB2.out.size hb3.size))).trans (hb5.mono (Nat.le_trans (Nat.le_trans HB2.out.size hb3.size) hb4.size))
    have hrd : RefRd W5 w3.heap.size g cap s 0 := RefRd.below ⟨hB4, fun i x hx => ⟨(hb4.cell (p := ⟨g, i * 2, none⟩) hg2).trans (hpc i x hx).1, (hb4.cell (p := ⟨g, i * 2 + 1, none⟩) hg2).trans (hpc i x hx).2⟩, Nat.lt_of_lt_of_le hg2 hb4.size⟩ hb5
    have O : Hid (OrdP w W5.heap.size w.heap.size w3.heap.size W4.heap.size g) := Lib.hid ⟨Nat.le_refl _, Nat.lt_of_lt_of_le (lt_of_heap HR2.out) hg1, hg2, lt_of_heap hB4, lt_of_heap hT5⟩
    have P0 : Hid (PaI w W5 W5.heap.size w.heap.size w3.heap.size W4.heap.size g cap s 0 pNo (.slice none 0 0) (.slice none 0 0) (.slice none 0 0) (.slice none 0 0) []) := Lib.hid ⟨hrd, TgI.start hT5 (Nat.le_refl _), hRW, hBW, Nat.zero_le _⟩
    clear hrd hBW hRW hb5 hT5 hb4 hB4 hpc hg1 hg2 ho hb3 HR2 HB2 HLR HR1 HB1 HW1 FI EA
    generalize W5.heap.size = N at *
    generalize W4.heap.size = T at *
    generalize w3.heap.size = B at *
    obtain ⟨k, K0⟩ : ∃ k : Nat, Hid (k = 0) := ⟨0, Lib.hid rfl⟩
    replace P0 : Hid (PaI w W5 N w.heap.size B T g cap s k pNo (.slice none 0 0) (.slice none 0 0) (.slice none 0 0) (.slice none 0 0) []) := by rw [K0.out]; exact P0
    have HH := Lib.hid (fun (k : Nat) (w5 : World) (h : RefRd w5 B g cap s k) (hk : k ≤ (pieces s).length) => here_ref h hs (by omega))
    have WR := Lib.hid (fun (k : Nat) (w5 : World) (h : RefRd w5 B g cap s k) => (wrong_ref h).mono (R' := fun e w' => ∃ x : PErr, x = wrongP s k ∧ e = .returned (.agg #[.string ⟨#[]⟩, .slice none 0 0, .string ⟨#[]⟩, .string ⟨#[]⟩, .slice none 0 0, .slice none 0 0, .slice none 0 0, .string ⟨#[]⟩, .int .i64 x.1, .int .i64 (x.2.1 : Int), .string x.2.2]) ∧ Below w5.heap.size w5 w') fun e w' ⟨p, q⟩ => ⟨_, rfl, p, q⟩)
    have hgB : g ≠ B := by have := O.out.gb; omega
    obtain ⟨p, hp⟩ : ∃ p, hereP (pieces s) k = p := ⟨_, rfl⟩
    have HA := Lib.hid (fun w5 (h : RefRd w5 B g cap s k) => HH.out k w5 h P0.out.le)
    rw [hp] at HA
    have hp8 : p.size ≤ 8 := by rw [← hp]; exact here_size _ _
    have Hp := Lib.hid hp
    clear hp
    go_upto_if 27 with (go_at_call 46; (with_reducible refine (HA.out _ P0.out.rd).mono ?_); rintro e w6 ⟨rfl, hb_w6⟩; have P1 := Lib.hid (P0.out.below hb_w6); clear hb_w6)
    go_cut [] from 27 to 181 (fun wx => ∃ k t ve vv vx us, Hid (PaI w wx N w.heap.size B T g cap s k t ve vv vx (.slice none 0 0) us) ∧ Hid (EndK s k t))
    case first =>
      by_cases hx : p = sX
      · skip
        have hq1 : (p.toList == [120]) = true := by
          rw [hx]
          decide +kernel
        have hq2 : (!(p.toList == [120])) = false := by rw [hq1]; rfl
        have HX := Lib.hid hx
        clear hx
        rw [hq2]
        go_wp2_with fail
        go_meet
        case rel => exact ⟨k, pNo, _, _, _, _, P1, Lib.hid (by rw [K0.out]; exact EndK.start (by have h := Hp.out; rw [K0.out] at h; rw [h]; exact HX.out))⟩
      · skip
        have hq1 : (p.toList == [120]) = false := by
          have h := toList_ne hx
          rwa [show sX.toList = [120] by unfold sX; rw [ByteArray.toList_eq]] at h
        have hq2 : (!(p.toList == [120])) = true := by rw [hq1]; rfl
        have HX := Lib.hid hx
        clear hx
        rw [hq2]
        have LG := Lib.hid (fun w5 => language_ref p w5 (by omega))
        cases hl : languageS p with
        | false =>
          rw [hl] at LG
          have HE := Lib.hid (show outP (readS s) = (pNo, some (wrongP s k)) from by rw [K0.out]; exact FromK.none0 (by have h := Hp.out; rw [K0.out] at h; rw [h]; exact hl) (by have h := Hp.out; rw [K0.out] at h; rw [h]; exact HX.out))
          clear hl
          go_wp2_with (first | (go_at_call 46; (with_reducible refine (HA.out _ P1.out.rd).mono ?_); rintro e w7 ⟨rfl, hb_w7⟩; have P2 := Lib.hid (P1.out.below hb_w7); clear hb_w7) | (go_at_call 47; (with_reducible refine (LG.out _).mono ?_); rintro e w_ ⟨rfl, rfl⟩) | (go_at_call 48; (with_reducible refine (WR.out (k) _ P2.out.rd).mono ?_); rintro e wE ⟨x, hxE, rfl, hbE⟩; have PE := Lib.hid (P2.out.below hbE); have HXE := Lib.hid hxE; clear hxE hbE) | (refine wpList_store_row rfl _ _ _ rfl _ _ rfl rfl _ _ PE.out.rb gotSize rfl (by simp [Value.oneCell']) ?_))
          refine bodyPost_ret (results_cell_row rfl _ _ w.heap.size 54 #[.string ⟨#[]⟩, .slice none 0 0, .string ⟨#[]⟩, .string ⟨#[]⟩, .slice none 0 0, .slice none 0 0, .slice none 0 0, .string ⟨#[]⟩, .int .i64 x.1, .int .i64 (x.2.1 : Int), .string x.2.2] (0, 0) _ rfl (setRow_heap _ _ _ _ _ _ PE.out.rb) Tryz.underlying54 rfl gotSize) rfl ?_
          exact ⟨_, rfl, by rw [HP.out, HE.out]; exact .inl ⟨x, by rw [HXE.out], rfl⟩, below_setRowQ PE.out.fr (Nat.le_refl _) _⟩
        | true =>
          rw [hl] at LG
          have hlt : k < (pieces s).length := by obtain ⟨_, _, h, _, _⟩ := here_ok (L := pieces s) (k := k) (by rw [Hp.out]; exact okk_language hl); exact h
          have KE := Lib.hid (show ExtlK s (k + 1) { pNo with lang := p } from by have h := ExtlK.start (s := s) (by have h := Hp.out; rw [K0.out] at h; rw [h]; exact hl) (by have h := Hp.out; rw [K0.out] at h; rw [h]; exact HX.out); have h2 := Hp.out; rw [K0.out] at h2; rw [h2] at h; rw [K0.out]; exact h)
          clear hl
          go_upto_region 10 with (first | (go_at_call 46; (with_reducible refine (HA.out _ P1.out.rd).mono ?_); rintro e w7 ⟨rfl, hb_w7⟩; have P2 := Lib.hid (P1.out.below hb_w7); clear hb_w7) | (go_at_call 47; (with_reducible refine (LG.out _).mono ?_); rintro e w_ ⟨rfl, rfl⟩) | (go_at_call 46; (with_reducible refine (HA.out _ P2.out.rd).mono ?_); rintro e w8 ⟨rfl, hb_w8⟩; have P3 := Lib.hid (P2.out.below hb_w8); obtain ⟨m0, m1, m2, m3, m4, m5, m6, m7⟩ := tg_cells P3.out.tg.hb; have fm := cells_frozen 0 P3.out.tg.hb; have P4 := Lib.hid (P3.out.put O.out (t' := { pNo with lang := p }) (grown_setF (World.grownBy.refl w8 (some T)) 0 (.string p)) (cells_set P3.out.tg.hb (k := 0) (.string p)) rfl rfl rfl rfl); obtain ⟨x0, x1, x2⟩ := P4.out.rd.cells; have fx := cells_frozen 1 P4.out.rd.blk; clear hb_w8))
          clear m0 m1 m2 m3 m4 m5 m6 m7 fm
          go_cut [] from 38 to 44 (fun wx => ∃ k t ve, Hid (PaI w wx N w.heap.size B T g cap s k t ve (.slice none 0 0) (.slice none 0 0) (.slice none 0 0) []) ∧ Hid (ExtlK s k t))
          case first =>
            go_wp2_with fail
            go_meet
            case rel => exact ⟨k + 1, _, _, Lib.hid (P4.out.step O.out (v := (k : Int) + 1) (by omega) hlt), KE⟩
          case rest =>
            obtain ⟨k, t, ve, P, K⟩ := hcut
            clear x0 x1 x2 fx KE P4 hlt hq1 hq2 HX LG HA Hp hp8 K0 P0 P1 P2 P3
            go_step
            go_step
            go_cut [] from 45 to 73 (fun wx => ∃ k t ve, Hid (PaI w wx N w.heap.size B T g cap s k t ve (.slice none 0 0) (.slice none 0 0) (.slice none 0 0) []) ∧ Hid (MidK s k t 2))
            case first =>
              go_wp2_with fail
              go_loopw [45] (fun _ wr => ∃ k t ve, Hid (PaI w wr N w.heap.size B T g cap s k t ve (.slice none 0 0) (.slice none 0 0) (.slice none 0 0) []) ∧ Hid (ExtlK s k t)) (fun _ wr => (pieces s).length + 1 - atK B wr)
              case atStart => exact ⟨k, t, ve, P, K⟩
              case round =>
                clear P K
                obtain ⟨k, t, ve, P, K⟩ := hrel
                obtain ⟨ea, en, ec, rfl⟩ := own_slice P.out.tg.oe
                obtain rfl : en = t.extl.length := own_len P.out.tg.oe
                obtain ⟨q0, q1, q2, q3, q4, q5, q6, q7⟩ := tg_cells P.out.tg.hb
                obtain ⟨p, hp⟩ : ∃ p, hereP (pieces s) k = p := ⟨_, rfl⟩
                have HA := Lib.hid (fun w5 (h : RefRd w5 B g cap s k) => HH.out k w5 h P.out.le)
                rw [hp] at HA
                have hp8 : p.size ≤ 8 := by rw [← hp]; exact here_size _ _
                have Hp := Lib.hid hp
                clear hp
                have EX := Lib.hid (fun w5 => extlang_ref p w5 (by omega))
                by_cases c1 : t.lang.size ≤ 3
                · have d1 : (t.lang.size : Int) ≤ 3 := by omega
                  by_cases c2 : t.extl.length < 3
                  · have d2 : (t.extl.length : Int) < 3 := by omega
                    cases c3 : extlangS p with
                    | true =>
                      rw [c3] at EX
                      have hlt : k < (pieces s).length := by obtain ⟨_, _, h, _, _⟩ := here_ok (L := pieces s) (k := k) (by rw [Hp.out]; exact okk_extlang c3); exact h
                      have C := Lib.hid (And.intro c1 (And.intro c2 c3))
                      clear c1 c3
                      go_upto_region 12 with (first | (go_at_call 46; (with_reducible refine (HA.out _ P.out.rd).mono ?_); rintro e w6 ⟨rfl, hb_w6⟩; have P1 := Lib.hid (P.out.below hb_w6); have z1 := (tg_cells P1.out.tg.hb).2.1; clear hb_w6) | (go_at_call 49; (with_reducible refine (EX.out _).mono ?_); rintro e w_ ⟨rfl, rfl⟩))
                      clear q0 q1 q2 q3 q4 q5 q6 q7 z1
                      have PD := Lib.hid (P1.out.below (Below.drew (Below.refl _ _)))
                      have cd := (tg_cells PD.out.tg.hb).2.1
                      have hel : t.extl.length ≤ 1048577 := by have h1 := K.out.e; omega
                      go_region_law (first
                        | (go_simp; go_at_call 46; (with_reducible refine (HA.out _ PD.out.rd).mono ?_); rintro e w5 ⟨rfl, hb5⟩; have P5 := Lib.hid (PD.out.below hb5); have ce := (tg_cells P5.out.tg.hb).2.1; have P6 := Lib.hid (P5.out.below ((Below.refl _ _).alloc (Nat.le_refl _) (.cells #[.string p] 9))); have cf := (tg_cells P6.out.tg.hb).2.1; have HNB := Lib.hid (World.alloc_heap_new w5 (.cells #[.string p] 9)); clear hb5)
                        | (refine step_append_lies _ rfl _ _ 28 rfl N 9 i0 (.string ByteArray.empty) 1 16 Tryz.underlying28 hii iz0 iz1 iz2 rfl (by decide) (.slice ea t.extl.length ec) t.extl.length (strs t.extl) rfl P6.out.tg.oe ⟨_, 0, none⟩ 1 1 [.string p] rfl rfl (World.news_of_block HNB.out) (by intro u hu; simp at hu; subst hu; rfl) (by decide) (by unfold maxLen; omega) (by omega) P6.out.tg.nh _ rfl ?_; intro g7 cap7 w7 hown7 hgrow7 hlies7 _; have hT7 := (hgrow7.block T (lt_of_heap P6.out.tg.hb) (fun e => own_not_blk P6.out.tg.oe (by decide) P6.out.tg.hb e.symm)).trans P6.out.tg.hb; have hg8 := grown_setF (World.grownBy.refl w7 (some T)) 1 (.slice (some ⟨g7, 0, none⟩) (t.extl.length + 1) cap7); have ht8 := P6.out.tg.extl hown7 hgrow7 (lies_of hlies7) hg8 (cells_set hT7 (k := 1) (.slice (some ⟨g7, 0, none⟩) (t.extl.length + 1) cap7)); have P8 := Lib.hid (P6.out.turn O.out hgrow7 (fun k e => (P6.out.tg.oe.lt k e).1) hg8 ht8); have cg := (tg_cells hT7).2.1; have fg := cells_frozen 1 hT7; obtain ⟨x0, x1, x2⟩ := P8.out.rd.cells; have y1 := cells_frozen 1 P8.out.rd.blk; clear hown7 hgrow7 hlies7 hT7 hg8 ht8))
                      all_goals
                        (try go_wp2_with fail)
                        have P9 := Lib.hid (P8.out.step O.out (v := (k : Int) + 1) (by omega) hlt)
                        go_roundw
                        case rel => exact ⟨k + 1, _, _, P9, Lib.hid (by have h := K.out.next C.out.1 C.out.2.1 (by rw [Hp.out]; exact C.out.2.2); rw [Hp.out] at h; exact h)⟩
                        case measure => rw [atK_rd P9.out.rd, atK_rd P.out.rd]; omega
                    | false =>
                      rw [c3] at EX
                      have C := Lib.hid c3
                      clear c3
                      go_wp2_with (first | (go_at_call 46; (with_reducible refine (HA.out _ P.out.rd).mono ?_); rintro e w6 ⟨rfl, hb_w6⟩; have P1 := Lib.hid (P.out.below hb_w6); clear hb_w6) | (go_at_call 49; (with_reducible refine (EX.out _).mono ?_); rintro e w_ ⟨rfl, rfl⟩))
                      go_meet
                      case rel => exact ⟨k, t, _, P1, Lib.hid (K.out.mid (fun h => by rw [Hp.out, C.out] at h; cases h.2.2))⟩
                  · have d2 : ¬ (t.extl.length : Int) < 3 := by omega
                    go_wp2_with fail
                    go_meet
                    case rel => exact ⟨k, t, _, P, Lib.hid (K.out.mid (fun h => by omega))⟩
                · have d1 : ¬ (t.lang.size : Int) ≤ 3 := by omega
                  go_wp2_with fail
                  go_meet
                  case rel => exact ⟨k, t, _, P, Lib.hid (K.out.mid (fun h => by omega))⟩
            case rest =>
              clear P K
              obtain ⟨k, t, ve, P, K⟩ := hcut
              obtain ⟨p, hp⟩ : ∃ p, hereP (pieces s) k = p := ⟨_, rfl⟩
              have HA := Lib.hid (fun w5 (h : RefRd w5 B g cap s k) => HH.out k w5 h P.out.le)
              rw [hp] at HA
              have hp8 : p.size ≤ 8 := by rw [← hp]; exact here_size _ _
              have Hp := Lib.hid hp
              clear hp
              obtain ⟨bk, hbk⟩ : ∃ b, scriptS p = b := ⟨_, rfl⟩
              have KC := Lib.hid (fun w5 => script_ref p w5 (by omega))
              rw [hbk] at KC
              have HBK := Lib.hid hbk
              clear hbk
              go_upto_if 77 with (first | (go_at_call 46; (with_reducible refine (HA.out _ P.out.rd).mono ?_); rintro e w6 ⟨rfl, hb_w6⟩; have P1 := Lib.hid (P.out.below hb_w6); clear hb_w6) | (go_at_call 50; (with_reducible refine (KC.out _).mono ?_); rintro e w_ ⟨rfl, rfl⟩))
              go_cut [] from 77 to 87 (fun wx => ∃ k t, Hid (PaI w wx N w.heap.size B T g cap s k t ve (.slice none 0 0) (.slice none 0 0) (.slice none 0 0) []) ∧ Hid (MidK s k t 3))
              case first =>
                cases bk with
                | false =>
                  go_wp2_with fail
                  go_meet
                  case rel => exact ⟨k, t, P1, Lib.hid (K.out.noScript (by rw [Hp.out]; exact HBK.out))⟩
                | true =>
                  have hlt : k < (pieces s).length := by obtain ⟨_, _, h, _, _⟩ := here_ok (L := pieces s) (k := k) (by rw [Hp.out]; exact okk_script HBK.out); exact h
                  go_wp2_with (go_at_call 46; (with_reducible refine (HA.out _ P1.out.rd).mono ?_); rintro e w7 ⟨rfl, hb_w7⟩; have P2 := Lib.hid (P1.out.below hb_w7); obtain ⟨m0, m1, m2, m3, m4, m5, m6, m7⟩ := tg_cells P2.out.tg.hb; have fm := cells_frozen 2 P2.out.tg.hb; have P3 := Lib.hid (P2.out.put O.out (t' := { t with script := p }) (grown_setF (World.grownBy.refl w7 (some T)) 2 (.string p)) (cells_set P2.out.tg.hb (k := 2) (.string p)) rfl rfl rfl rfl); obtain ⟨x0, x1, x2⟩ := P3.out.rd.cells; have fx := cells_frozen 1 P3.out.rd.blk; clear hb_w7)
                  go_meet
                  case rel => exact ⟨k + 1, _, Lib.hid (P3.out.step O.out (v := (k : Int) + 1) (by omega) hlt), Lib.hid (by have h := K.out.script (by rw [Hp.out]; exact HBK.out); rw [Hp.out] at h; exact h)⟩
              case rest =>
                clear P K HA Hp hp8 P1 HBK KC
                obtain ⟨k, t, P, K⟩ := hcut
                obtain ⟨p, hp⟩ : ∃ p, hereP (pieces s) k = p := ⟨_, rfl⟩
                have HA := Lib.hid (fun w5 (h : RefRd w5 B g cap s k) => HH.out k w5 h P.out.le)
                rw [hp] at HA
                have hp8 : p.size ≤ 8 := by rw [← hp]; exact here_size _ _
                have Hp := Lib.hid hp
                clear hp
                obtain ⟨bk, hbk⟩ : ∃ b, regionS p = b := ⟨_, rfl⟩
                have KC := Lib.hid (fun w5 => region_ref p w5 (by omega))
                rw [hbk] at KC
                have HBK := Lib.hid hbk
                clear hbk
                go_upto_if 91 with (first | (go_at_call 46; (with_reducible refine (HA.out _ P.out.rd).mono ?_); rintro e w6 ⟨rfl, hb_w6⟩; have P1 := Lib.hid (P.out.below hb_w6); clear hb_w6) | (go_at_call 51; (with_reducible refine (KC.out _).mono ?_); rintro e w_ ⟨rfl, rfl⟩))
                go_cut [] from 91 to 101 (fun wx => ∃ k t, Hid (PaI w wx N w.heap.size B T g cap s k t ve (.slice none 0 0) (.slice none 0 0) (.slice none 0 0) []) ∧ Hid (MidK s k t 4))
                case first =>
                  cases bk with
                  | false =>
                    go_wp2_with fail
                    go_meet
                    case rel => exact ⟨k, t, P1, Lib.hid (K.out.noRegion (by rw [Hp.out]; exact HBK.out))⟩
                  | true =>
                    have hlt : k < (pieces s).length := by obtain ⟨_, _, h, _, _⟩ := here_ok (L := pieces s) (k := k) (by rw [Hp.out]; exact okk_region HBK.out); exact h
                    go_wp2_with (go_at_call 46; (with_reducible refine (HA.out _ P1.out.rd).mono ?_); rintro e w7 ⟨rfl, hb_w7⟩; have P2 := Lib.hid (P1.out.below hb_w7); obtain ⟨m0, m1, m2, m3, m4, m5, m6, m7⟩ := tg_cells P2.out.tg.hb; have fm := cells_frozen 3 P2.out.tg.hb; have P3 := Lib.hid (P2.out.put O.out (t' := { t with region := p }) (grown_setF (World.grownBy.refl w7 (some T)) 3 (.string p)) (cells_set P2.out.tg.hb (k := 3) (.string p)) rfl rfl rfl rfl); obtain ⟨x0, x1, x2⟩ := P3.out.rd.cells; have fx := cells_frozen 1 P3.out.rd.blk; clear hb_w7)
                    go_meet
                    case rel => exact ⟨k + 1, _, Lib.hid (P3.out.step O.out (v := (k : Int) + 1) (by omega) hlt), Lib.hid (by have h := K.out.region (by rw [Hp.out]; exact HBK.out); rw [Hp.out] at h; exact h)⟩
                case rest =>
                  clear P K HA Hp hp8 P1 HBK KC
                  obtain ⟨k, t, P, K⟩ := hcut
                  go_step
                  go_step
                  go_cut [] from 102 to 135 (fun wx => ∃ k t vv, Hid (PaI w wx N w.heap.size B T g cap s k t ve vv (.slice none 0 0) (.slice none 0 0) []) ∧ Hid (ExtK s k t))
                  case first =>
                    go_wp2_with fail
                    go_loopw [102] (fun _ wr => ∃ k t vv, Hid (PaI w wr N w.heap.size B T g cap s k t ve vv (.slice none 0 0) (.slice none 0 0) []) ∧ Hid (MidK s k t 4)) (fun _ wr => (pieces s).length + 1 - atK B wr)
                    case atStart => exact ⟨k, t, _, P, K⟩
                    case round =>
                      clear P K
                      obtain ⟨k, t, vv, P, K⟩ := hrel
                      obtain ⟨va, vn, vc, rfl⟩ := own_slice P.out.tg.ov
                      obtain rfl : vn = t.vars.length := own_len P.out.tg.ov
                      obtain ⟨p, hp⟩ : ∃ p, hereP (pieces s) k = p := ⟨_, rfl⟩
                      have HA := Lib.hid (fun w5 (h : RefRd w5 B g cap s k) => HH.out k w5 h P.out.le)
                      rw [hp] at HA
                      have hp8 : p.size ≤ 8 := by rw [← hp]; exact here_size _ _
                      have Hp := Lib.hid hp
                      clear hp
                      have VA := Lib.hid (fun w5 => variant_ref p w5 (by omega))
                      cases c3 : variantS p with
                      | false =>
                        rw [c3] at VA
                        have C := Lib.hid c3
                        clear c3
                        go_wp2_with (first | (go_at_call 46; (with_reducible refine (HA.out _ P.out.rd).mono ?_); rintro e w6 ⟨rfl, hb_w6⟩; have P1 := Lib.hid (P.out.below hb_w6); clear hb_w6) | (go_at_call 52; (with_reducible refine (VA.out _).mono ?_); rintro e w_ ⟨rfl, rfl⟩))
                        go_meet
                        case rel => exact ⟨k, t, _, P1, Lib.hid (K.out.noVar (by rw [Hp.out]; exact C.out))⟩
                      | true =>
                        rw [c3] at VA
                        have hlt : k < (pieces s).length := by obtain ⟨_, _, h, _, _⟩ := here_ok (L := pieces s) (k := k) (by rw [Hp.out]; exact okk_variant c3); exact h
                        have C := Lib.hid c3
                        clear c3
                        have TW := Lib.hid (fun (w5 : World) (h : RefRd w5 B g cap s k) => show Calls Tryz.prog 53 #[.pointer (some ⟨B, 0, none⟩), .string { data := #[118, 97, 114, 105, 97, 110, 116] }] w5 (fun e w' => ∃ x : PErr, x = twiceP s k sVar ∧ e = .returned (.agg #[.string ⟨#[]⟩, .slice none 0 0, .string ⟨#[]⟩, .string ⟨#[]⟩, .slice none 0 0, .slice none 0 0, .slice none 0 0, .string ⟨#[]⟩, .int .i64 x.1, .int .i64 (x.2.1 : Int), .string x.2.2]) ∧ Below w5.heap.size w5 w') from (twice_ref h sVar hlt).mono fun e w' ⟨p, q⟩ => ⟨_, rfl, p, q⟩)
                        go_wp2_with (first | (go_at_call 46; (with_reducible refine (HA.out _ P.out.rd).mono ?_); rintro e w6 ⟨rfl, hb_w6⟩; have P1 := Lib.hid (P.out.below hb_w6); clear hb_w6) | (go_at_call 52; (with_reducible refine (VA.out _).mono ?_); rintro e w_ ⟨rfl, rfl⟩))
                        have hel : t.vars.length ≤ 1048577 := by have h1 := K.out.le; have h2 := P.out.le; omega
                        go_loopw [8] (fun i wr2 => ∃ j : Nat, j ≤ t.vars.length ∧ i = .int .i64 (j : Int) ∧ Hid (PaI w wr2 N w.heap.size B T g cap s k t ve (.slice va t.vars.length vc) (.slice none 0 0) (.slice none 0 0) []) ∧ Hid (∀ (j' : Nat) (x : ByteArray), j' < j → t.vars[j']? = some x → x ≠ p)) (fun i _ => t.vars.length - (intOf i).toNat)
                        case atStart => exact ⟨0, Nat.zero_le _, rfl, P1, Lib.hid (fun j' x h => by omega)⟩
                        case round =>
                          obtain ⟨j, hj, rfl, P2, HN⟩ := hrel
                          obtain ⟨q0, q1, q2, q3, q4, q5, q6, q7⟩ := tg_cells P2.out.tg.hb
                          by_cases hjl : j < t.vars.length
                          · skip
                            have hji : (j : Int) < (t.vars.length : Int) := by omega
                            have hj0 : (0 : Int) ≤ (j : Int) := by omega
                            obtain ⟨x, hx⟩ : ∃ x, t.vars[j]? = some x := ⟨_, List.getElem?_eq_getElem hjl⟩
                            obtain ⟨gv, rfl, hcc⟩ := row_atQ P2.out.tg.ov hx
                            have PD := Lib.hid (P2.out.below (Below.drew (Below.refl _ _)))
                            have HS := Lib.hid (fun w' (h : Below wr.drew.heap.size wr.drew w') => (show w'.cell? ⟨T, 4, none⟩ = some (.slice (some ⟨gv, 0, none⟩) t.vars.length vc) ∧ w'.cell? ⟨gv, j, none⟩ = some (.string x) from ⟨(tg_cells (PD.out.below h).tg.hb).2.2.2.2.1, hcc _ ((Below.drew (Below.refl _ wr)).trans h)⟩))
                            have hmd : Below wr.drew.heap.size wr.drew wr.drew := Below.refl _ _
                            have HXX := Lib.hid hx
                            clear hcc hx
                            go_upto_region 26 with fail
                            obtain ⟨s1, s2⟩ := HS.out _ hmd
                            have HSB := Lib.hid (show (x.toList == p.toList) = decide (x = p) from same_boolQ _ _)
                            by_cases hxp : x = p
                            · have hxb : (x.toList == p.toList) = true := by rw [HSB.out]; exact decide_eq_true hxp
                              have HE := Lib.hid (show outP (readS s) = (pNo, some (twiceP s k sVar)) from K.out.twice (by rw [Hp.out]; exact C.out) (by rw [Hp.out]; exact has_true (j := j) (by rw [HXX.out, hxp])))
                              clear hxp
                              go_region_held3 (fun w' => w'.cell? ⟨T, 4, none⟩ = some (.slice (some ⟨gv, 0, none⟩) t.vars.length vc) ∧ w'.cell? ⟨gv, j, none⟩ = some (.string x)) (exact HS.out _ (by assumption)) (first | (go_at_call 46; (with_reducible refine (HA.out _ PD.out.rd).mono ?_); rintro e w5 ⟨rfl, hb5⟩; have P5 := Lib.hid (PD.out.below hb5)))
                              go_wp2_with (first | (go_at_call 53; (with_reducible refine (TW.out _ P5.out.rd).mono ?_); rintro e wE ⟨x, hxE, rfl, hbE⟩; have PE := Lib.hid (P5.out.below hbE); have HXE := Lib.hid hxE; clear hxE hbE) | (refine wpList_store_row rfl _ _ _ rfl _ _ rfl rfl _ _ PE.out.rb gotSize rfl (by simp [Value.oneCell']) ?_))
                              refine bodyPost_ret (results_cell_row rfl _ _ w.heap.size 54 #[.string ⟨#[]⟩, .slice none 0 0, .string ⟨#[]⟩, .string ⟨#[]⟩, .slice none 0 0, .slice none 0 0, .slice none 0 0, .string ⟨#[]⟩, .int .i64 x.1, .int .i64 (x.2.1 : Int), .string x.2.2] (0, 0) _ rfl (setRow_heap _ _ _ _ _ _ PE.out.rb) Tryz.underlying54 rfl gotSize) rfl ?_
                              exact ⟨_, rfl, by rw [HP.out, HE.out]; exact .inl ⟨x, by rw [HXE.out], rfl⟩, below_setRowQ PE.out.fr (Nat.le_refl _) _⟩
                            · have hxb : (x.toList == p.toList) = false := by rw [HSB.out]; exact decide_eq_false hxp
                              have HN2 := Lib.hid (show ∀ (j' : Nat) (y : ByteArray), j' < j + 1 → t.vars[j']? = some y → y ≠ p from fun j' y h1 h2 => by
                                  rcases Nat.lt_or_eq_of_le (Nat.le_of_lt_succ h1) with h | h
                                  · exact HN.out j' y h h2
                                  · subst h; rw [HXX.out] at h2; rw [← Option.some.inj h2]; exact hxp)
                              clear hxp
                              go_region_held3 (fun w' => w'.cell? ⟨T, 4, none⟩ = some (.slice (some ⟨gv, 0, none⟩) t.vars.length vc) ∧ w'.cell? ⟨gv, j, none⟩ = some (.string x)) (exact HS.out _ (by assumption)) (first | (go_at_call 46; (with_reducible refine (HA.out _ PD.out.rd).mono ?_); rintro e w5 ⟨rfl, hb5⟩; have P5 := Lib.hid (PD.out.below hb5)))
                              go_wp2_with fail
                              go_roundw
                              case rel => exact ⟨j + 1, by omega, by go_num, P5, HN2⟩
                              case measure => simp [intOf]; omega
                          · skip
                            obtain rfl : j = t.vars.length := by omega
                            have hji : ¬ (t.vars.length : Int) < (t.vars.length : Int) := by omega
                            have HNV := Lib.hid (show hasT t.vars p = false from has_false (fun j x hx => HN.out j x (List.getElem?_eq_some_iff.1 hx).1 hx))
                            go_upto_region 28 with fail
                            clear q0 q1 q2 q3 q4 q5 q6 q7
                            have PD := Lib.hid (P2.out.below (Below.drew (Below.refl _ _)))
                            have cd := (tg_cells PD.out.tg.hb).2.2.2.2.1
                            have hel : t.vars.length ≤ 1048577 := by have h1 := K.out.le; have h2 := P.out.le; omega
                            go_region_law (first
                              | (go_simp; go_at_call 46; (with_reducible refine (HA.out _ PD.out.rd).mono ?_); rintro e w5 ⟨rfl, hb5⟩; have P5 := Lib.hid (PD.out.below hb5); have ce := (tg_cells P5.out.tg.hb).2.2.2.2.1; have P6 := Lib.hid (P5.out.below ((Below.refl _ _).alloc (Nat.le_refl _) (.cells #[.string p] 9))); have cf := (tg_cells P6.out.tg.hb).2.2.2.2.1; have HNB := Lib.hid (World.alloc_heap_new w5 (.cells #[.string p] 9)); clear hb5)
                              | (refine step_append_lies _ rfl _ _ 28 rfl N 9 i0 (.string ByteArray.empty) 1 16 Tryz.underlying28 hii iz0 iz1 iz2 rfl (by decide) (.slice va t.vars.length vc) t.vars.length (strs t.vars) rfl P6.out.tg.ov ⟨_, 0, none⟩ 1 1 [.string p] rfl rfl (World.news_of_block HNB.out) (by intro u hu; simp at hu; subst hu; rfl) (by decide) (by unfold maxLen; omega) (by omega) P6.out.tg.nh _ rfl ?_; intro g7 cap7 w7 hown7 hgrow7 hlies7 _; have hT7 := (hgrow7.block T (lt_of_heap P6.out.tg.hb) (fun e => own_not_blk P6.out.tg.ov (by decide) P6.out.tg.hb e.symm)).trans P6.out.tg.hb; have hg8 := grown_setF (World.grownBy.refl w7 (some T)) 4 (.slice (some ⟨g7, 0, none⟩) (t.vars.length + 1) cap7); have ht8 := P6.out.tg.vars hown7 hgrow7 (lies_of hlies7) hg8 (cells_set hT7 (k := 4) (.slice (some ⟨g7, 0, none⟩) (t.vars.length + 1) cap7)); have P8 := Lib.hid (P6.out.turn O.out hgrow7 (fun k e => (P6.out.tg.ov.lt k e).1) hg8 ht8); have cg := (tg_cells hT7).2.2.2.2.1; have fg := cells_frozen 4 hT7; obtain ⟨x0, x1, x2⟩ := P8.out.rd.cells; have y1 := cells_frozen 1 P8.out.rd.blk; clear hown7 hgrow7 hlies7 hT7 hg8 ht8))
                            all_goals
                              (try go_wp2_with fail)
                              have P9 := Lib.hid (P8.out.step O.out (v := (k : Int) + 1) (by omega) hlt)
                              go_roundw
                              case rel => exact ⟨k + 1, _, _, P9, Lib.hid (by have h := K.out.var (by rw [Hp.out]; exact C.out) (by rw [Hp.out]; exact HNV.out); rw [Hp.out] at h; exact h)⟩
                              case measure => rw [atK_rd P9.out.rd, atK_rd P.out.rd]; omega
                  case rest =>
                    clear P K
                    obtain ⟨k, t, vv, P, K⟩ := hcut
                    go_wp2_with fail
                    go_loopw [136] (fun _ wr => ∃ k t vx us, Hid (PaI w wr N w.heap.size B T g cap s k t ve vv vx (.slice none 0 0) us) ∧ Hid (ExtK s k t)) (fun _ wr => (pieces s).length + 1 - atK B wr)
                    case atStart => exact ⟨k, t, _, _, P, K⟩
                    case round =>
                      clear P K
                      obtain ⟨k, t, vx, us, P, K⟩ := hrel
                      obtain ⟨va, vn, vc, rfl⟩ := own_slice P.out.tg.x
                      obtain rfl : vn = t.exts.length := own_len P.out.tg.x
                      obtain ⟨p, hp⟩ : ∃ p, hereP (pieces s) k = p := ⟨_, rfl⟩
                      have HA := Lib.hid (fun w5 (h : RefRd w5 B g cap s k) => HH.out k w5 h P.out.le)
                      rw [hp] at HA
                      have hp8 : p.size ≤ 8 := by rw [← hp]; exact here_size _ _
                      have Hp := Lib.hid hp
                      clear hp
                      have SG := Lib.hid (fun w5 => singleton_ref p w5 (by omega))
                      cases c3 : singletonS p with
                      | false =>
                        rw [c3] at SG
                        have C := Lib.hid c3
                        clear c3
                        go_wp2_with (first | (go_at_call 46; (with_reducible refine (HA.out _ P.out.rd).mono ?_); rintro e w6 ⟨rfl, hb_w6⟩; have P1 := Lib.hid (P.out.below hb_w6); clear hb_w6) | (go_at_call 54; (with_reducible refine (SG.out _).mono ?_); rintro e w_ ⟨rfl, rfl⟩))
                        go_meet
                        case rel => exact ⟨k, t, _, _, _, _, P1, Lib.hid (K.out.fin (by rw [Hp.out]; exact C.out))⟩
                      | true =>
                        rw [c3] at SG
                        have hlt : k < (pieces s).length := by obtain ⟨_, _, h, _, _⟩ := here_ok (L := pieces s) (k := k) (by rw [Hp.out]; exact okk_singleton c3); exact h
                        have C := Lib.hid c3
                        clear c3
                        have TW := Lib.hid (fun (w5 : World) (h : RefRd w5 B g cap s k) => show Calls Tryz.prog 53 #[.pointer (some ⟨B, 0, none⟩), .string { data := #[115, 105, 110, 103, 108, 101, 116, 111, 110] }] w5 (fun e w' => ∃ x : PErr, x = twiceP s k sSing ∧ e = .returned (.agg #[.string ⟨#[]⟩, .slice none 0 0, .string ⟨#[]⟩, .string ⟨#[]⟩, .slice none 0 0, .slice none 0 0, .slice none 0 0, .string ⟨#[]⟩, .int .i64 x.1, .int .i64 (x.2.1 : Int), .string x.2.2]) ∧ Below w5.heap.size w5 w') from (twice_ref h sSing hlt).mono fun e w' ⟨p, q⟩ => ⟨_, rfl, p, q⟩)
                        go_wp2_with (first | (go_at_call 46; (with_reducible refine (HA.out _ P.out.rd).mono ?_); rintro e w6 ⟨rfl, hb_w6⟩; have P1 := Lib.hid (P.out.below hb_w6); clear hb_w6) | (go_at_call 54; (with_reducible refine (SG.out _).mono ?_); rintro e w_ ⟨rfl, rfl⟩))
                        have hel : t.exts.length ≤ 1048577 := by have h1 := K.out.le; have h2 := P.out.le; omega
                        go_loopw [9] (fun i wr2 => ∃ j : Nat, j ≤ t.exts.length ∧ i = .int .i64 (j : Int) ∧ Hid (PaI w wr2 N w.heap.size B T g cap s k t ve vv (.slice va t.exts.length vc) (.slice none 0 0) us) ∧ Hid (∀ (j' : Nat) (x : ByteArray × List ByteArray), j' < j → t.exts[j']? = some x → x.1 ≠ p)) (fun i _ => t.exts.length - (intOf i).toNat)
                        case atStart => exact ⟨0, Nat.zero_le _, rfl, P1, Lib.hid (fun j' x h => by omega)⟩
                        case round =>
                          obtain ⟨j, hj, rfl, P2, HN⟩ := hrel
                          obtain ⟨q0, q1, q2, q3, q4, q5, q6, q7⟩ := tg_cells P2.out.tg.hb
                          by_cases hjl : j < t.exts.length
                          · skip
                            have hji : (j : Int) < (t.exts.length : Int) := by omega
                            have hj0 : (0 : Int) ≤ (j : Int) := by omega
                            obtain ⟨x, hx⟩ : ∃ x, t.exts[j]? = some x := ⟨_, List.getElem?_eq_getElem hjl⟩
                            obtain ⟨gv, rfl, hcc⟩ := ext_atQ P2.out.tg hx
                            have PD := Lib.hid (P2.out.below (Below.drew (Below.refl _ _)))
                            have HS := Lib.hid (fun w' (h : Below wr.drew.heap.size wr.drew w') => (show w'.cell? ⟨T, 5, none⟩ = some (.slice (some ⟨gv, 0, none⟩) t.exts.length vc) ∧ w'.cell? ⟨gv, j * 2, none⟩ = some (.string x.1) from ⟨(tg_cells (PD.out.below h).tg.hb).2.2.2.2.2.1, hcc _ ((Below.drew (Below.refl _ wr)).trans h)⟩))
                            have hmd : Below wr.drew.heap.size wr.drew wr.drew := Below.refl _ _
                            have HXX := Lib.hid hx
                            clear hcc hx
                            go_upto_region 34 with fail
                            obtain ⟨s1, s2⟩ := HS.out _ hmd
                            have HSB := Lib.hid (show (x.1.toList == p.toList) = decide (x.1 = p) from same_boolQ _ _)
                            by_cases hxp : x.1 = p
                            · have hxb : (x.1.toList == p.toList) = true := by rw [HSB.out]; exact decide_eq_true hxp
                              have HE := Lib.hid (show outP (readS s) = (pNo, some (twiceP s k sSing)) from K.out.twice (by rw [Hp.out]; exact C.out) (by rw [Hp.out]; exact has_true (j := j) (by rw [List.getElem?_map, HXX.out]; exact congrArg some hxp)))
                              clear hxp
                              go_region_held3 (fun w' => w'.cell? ⟨T, 5, none⟩ = some (.slice (some ⟨gv, 0, none⟩) t.exts.length vc) ∧ w'.cell? ⟨gv, j * 2, none⟩ = some (.string x.1)) (exact HS.out _ (by assumption)) (first | (go_at_call 46; (with_reducible refine (HA.out _ PD.out.rd).mono ?_); rintro e w5 ⟨rfl, hb5⟩; have P5 := Lib.hid (PD.out.below hb5)))
                              go_wp2_with (first | (go_at_call 53; (with_reducible refine (TW.out _ P5.out.rd).mono ?_); rintro e wE ⟨x, hxE, rfl, hbE⟩; have PE := Lib.hid (P5.out.below hbE); have HXE := Lib.hid hxE; clear hxE hbE) | (refine wpList_store_row rfl _ _ _ rfl _ _ rfl rfl _ _ PE.out.rb gotSize rfl (by simp [Value.oneCell']) ?_))
                              refine bodyPost_ret (results_cell_row rfl _ _ w.heap.size 54 #[.string ⟨#[]⟩, .slice none 0 0, .string ⟨#[]⟩, .string ⟨#[]⟩, .slice none 0 0, .slice none 0 0, .slice none 0 0, .string ⟨#[]⟩, .int .i64 x.1, .int .i64 (x.2.1 : Int), .string x.2.2] (0, 0) _ rfl (setRow_heap _ _ _ _ _ _ PE.out.rb) Tryz.underlying54 rfl gotSize) rfl ?_
                              exact ⟨_, rfl, by rw [HP.out, HE.out]; exact .inl ⟨x, by rw [HXE.out], rfl⟩, below_setRowQ PE.out.fr (Nat.le_refl _) _⟩
                            · have hxb : (x.1.toList == p.toList) = false := by rw [HSB.out]; exact decide_eq_false hxp
                              have HN2 := Lib.hid (show ∀ (j' : Nat) (y : ByteArray × List ByteArray), j' < j + 1 → t.exts[j']? = some y → y.1 ≠ p from fun j' y h1 h2 => by
                                  rcases Nat.lt_or_eq_of_le (Nat.le_of_lt_succ h1) with h | h
                                  · exact HN.out j' y h h2
                                  · subst h; rw [HXX.out] at h2; rw [← Option.some.inj h2]; exact hxp)
                              clear hxp
                              go_region_held3 (fun w' => w'.cell? ⟨T, 5, none⟩ = some (.slice (some ⟨gv, 0, none⟩) t.exts.length vc) ∧ w'.cell? ⟨gv, j * 2, none⟩ = some (.string x.1)) (exact HS.out _ (by assumption)) (first | (go_at_call 46; (with_reducible refine (HA.out _ PD.out.rd).mono ?_); rintro e w5 ⟨rfl, hb5⟩; have P5 := Lib.hid (PD.out.below hb5)))
                              go_wp2_with fail
                              go_roundw
                              case rel => exact ⟨j + 1, by omega, by go_num, P5, HN2⟩
                              case measure => simp [intOf]; omega
                          · skip
                            obtain rfl : j = t.exts.length := by omega
                            have hji : ¬ (t.exts.length : Int) < (t.exts.length : Int) := by omega
                            have HNV := Lib.hid (show hasT (t.exts.map (·.1)) p = false from has_false (fun j x hx => by
                              rw [List.getElem?_map] at hx
                              obtain ⟨y, hy, rfl⟩ := Option.map_eq_some_iff.1 hx
                              exact HN.out j y (List.getElem?_eq_some_iff.1 hy).1 hy))
                            have KK := Lib.hid (show KeyK s (k + 1) t p from by have h := K.out.open (by rw [Hp.out]; exact C.out) (by rw [Hp.out]; exact HNV.out); rw [Hp.out] at h; exact h)
                            go_upto_region 36 with fail
                            clear q0 q1 q2 q3 q4 q5 q6 q7 HNV HN
                            go_upto_region 37 with (go_at_call 46; (with_reducible refine (HA.out _ P2.out.rd).mono ?_); rintro e w5 ⟨rfl, hb_w5⟩; have P4 := Lib.hid (P2.out.below hb_w5); clear hb_w5)
                            obtain ⟨W6, hW6⟩ : ∃ x, w5.alloc (.cells #[.string p, .slice none 0 0] 51) = x := ⟨_, rfl⟩
                            have hb6 : Below w5.heap.size w5 W6 := by rw [← hW6]; exact (Below.refl _ _).alloc (Nat.le_refl _) _
                            have hX6 : W6.heap[w5.heap.size]? = some (.cells #[.string p, .slice none 0 0] 51 (0, 0)) := by rw [← hW6]; exact World.alloc_heap_new _ _
                            rw [hW6]
                            clear hW6
                            have P6 := Lib.hid (P4.out.below hb6)
                            have HO1 := Lib.hid (show (∀ x ∈ tgRows t ve vv (.slice none 0 0) us, ∀ b, x.1.ownBlock = some b → b < w5.heap.size) ∧ (∀ b, Value.ownBlock (.slice va t.exts.length vc) = some b → b < w5.heap.size) from ⟨fun x hx b e => ((P4.out.tg.r.1 x hx).lt b e).2, fun b e => (P4.out.tg.x.lt b e).2⟩)
                            have HNX := Lib.hid P4.out.tg.nh
                            obtain ⟨x0, x1, x2⟩ := P6.out.rd.cells
                            have fx := cells_frozen 1 P6.out.rd.blk
                            have HX6 := Lib.hid hX6
                            clear hb6 hX6
                            generalize w5.heap.size = X at *
                            have hXB : X ≠ B := by have h1 := HNX.out; have h2 := O.out.bt; have h3 := O.out.tn; omega
                            go_upto_region 38 with fail
                            have P7 := Lib.hid (P6.out.step O.out (v := (k : Int) + 1) (by omega) hlt)
                            have HX7 := Lib.hid (((grown_setF (World.grownBy.refl W6 (some B)) 1 (.int .i64 ((k : Int) + 1))).block X (lt_of_heap HX6.out) (fun e => hXB (Option.some.inj e))).trans HX6.out)
                            obtain ⟨W7, hW7⟩ : ∃ x, W6.setCell ⟨B, 1, none⟩ (.int .i64 ((k : Int) + 1)) = x := ⟨_, rfl⟩
                            rw [hW7] at P7 HX7 ⊢
                            clear hW7 x0 x1 x2 fx
                            have SB := Lib.hid (subs_ref7 2 P7.out.rd hgB hs P7.out.le 2 rfl)
                            go_upto_region 39 with (go_at_call 55; (with_reducible refine SB.out.mono ?_); rintro e w8 ⟨u, m, rfl, hq, hend⟩; obtain ⟨ua, un, uc, rfl⟩ := own_slice hq.own; obtain rfl : un = m := own_len hq.own; have hX8 := (hq.gr.block X (lt_of_heap HX7.out) (fun e => hXB (Option.some.inj e))).trans HX7.out; have cx := rd_cell 1 hX8 rfl; have fx := cells_frozen 1 hX8)
                            have P8 := Lib.hid (P7.out.subs O.out hq)
                            have hg9 := grown_setF (World.grownBy.refl w8 (some X)) 1 (.slice ua un uc)
                            have P9 := Lib.hid (P8.out.keptX O.out HNX.out hg9 HO1.out.1 HO1.out.2)
                            have hX9 : (w8.setCell ⟨X, 1, none⟩ (.slice ua un uc)).heap[X]? = some (.cells #[.string p, .slice ua un uc] 51 (0, 0)) := cells_set hX8 (k := 1) (.slice ua un uc)
                            have hou : (w8.setCell ⟨X, 1, none⟩ (.slice ua un uc)).ownsRow N 9 1 (.slice ua un uc) (fromL (pieces s) (k + 1) un).length (strs (fromL (pieces s) (k + 1) un)) := by
                              rw [fromL_len]
                              exact (hq.own.mono P7.out.tg.nh).kept hg9 (.inr (own_not_blk hq.own (by decide) hX8))
                            have HFF := Lib.hid (P7.out.tg.far hq.own)
                            have HALL := Lib.hid (And.intro hq.all hend)
                            obtain ⟨W9, hW9⟩ : ∃ x, w8.setCell ⟨X, 1, none⟩ (.slice ua un uc) = x := ⟨_, rfl⟩
                            rw [hW9] at P9 hX9 hou ⊢
                            have HOU := Lib.hid hou
                            have HX9 := Lib.hid hX9
                            clear hW9 hg9 hou hq hend hX8 cx fx P8
                            have c9 := rd_cell 0 HX9.out rfl
                            have c10 := rd_cell 1 HX9.out rfl
                            by_cases hm0 : un = 0
                            · have hmz : ((un : Int) == 0) = true := by rw [beq_iff_eq]; omega
                              have HE := Lib.hid (show outP (readS s) = (pNo, some (wrongP s (k + 1 + un))) from by subst hm0; exact KK.out.nil HALL.out.2)
                              clear hm0
                              go_wp2_with (first | (go_at_call 48; (with_reducible refine (WR.out (k + 1 + un) _ P9.out.rd).mono ?_); rintro e wE ⟨x, hxE, rfl, hbE⟩; have PE := Lib.hid (P9.out.below hbE); have HXE := Lib.hid hxE; clear hxE hbE) | (refine wpList_store_row rfl _ _ _ rfl _ _ rfl rfl _ _ PE.out.rb gotSize rfl (by simp [Value.oneCell']) ?_))
                              refine bodyPost_ret (results_cell_row rfl _ _ w.heap.size 54 #[.string ⟨#[]⟩, .slice none 0 0, .string ⟨#[]⟩, .string ⟨#[]⟩, .slice none 0 0, .slice none 0 0, .slice none 0 0, .string ⟨#[]⟩, .int .i64 x.1, .int .i64 (x.2.1 : Int), .string x.2.2] (0, 0) _ rfl (setRow_heap _ _ _ _ _ _ PE.out.rb) Tryz.underlying54 rfl gotSize) rfl ?_
                              exact ⟨_, rfl, by rw [HP.out, HE.out]; exact .inl ⟨x, by rw [HXE.out], rfl⟩, below_setRowQ PE.out.fr (Nat.le_refl _) _⟩
                            · have hmz : ((un : Int) == 0) = false := by rw [beq_eq_false_iff_ne]; omega
                              have KX := Lib.hid (show ExtK s (k + 1 + un) { t with exts := t.exts ++ [(p, fromL (pieces s) (k + 1) un)] } from KK.out.subs (by omega) (fun i hi => (HALL.out.1 i hi).2) HALL.out.2)
                              have PA := Lib.hid (P9.out.below ((Below.refl _ _).alloc (Nat.le_refl _) (.cells #[.string p, .slice ua un uc] 51)))
                              have HOA := Lib.hid (HOU.out.alloc (.cells #[.string p, .slice ua un uc] 51))
                              have hel : t.exts.length ≤ 1048577 := by have h1 := K.out.le; have h2 := P.out.le; omega
                              clear hm0
                              have cd := (tg_cells P9.out.tg.hb).2.2.2.2.2.1
                              have ce := (tg_cells PA.out.tg.hb).2.2.2.2.2.1
                              go_wp2_with (at_builtin; refine wpList_append_lies _ rfl _ _ 29 rfl N 51 i1 (.agg #[.string ByteArray.empty, .slice none 0 0]) 2 40 Tryz.underlying29 hi1 jz0 jz1 jz2 rfl (by decide) (.slice va t.exts.length vc) t.exts.length (extCells t.exts us) rfl PA.out.tg.x ⟨_, 0, none⟩ 1 1 [.string p, .slice ua un uc] rfl rfl (World.news_of_block (World.alloc_heap_new _ _)) (by intro u hu; simp at hu; rcases hu with rfl | rfl <;> rfl) (by decide) (by unfold maxLen; omega) (by omega) PA.out.tg.nh _ rfl ?_; intro g7 cap7 w7 hown7 hgrow7 hlies7 _; have hT7 := (hgrow7.block T (lt_of_heap PA.out.tg.hb) (fun e => own_not_blk PA.out.tg.x (by decide) PA.out.tg.hb e.symm)).trans PA.out.tg.hb; have hg8 := grown_setF (World.grownBy.refl w7 (some T)) 5 (.slice (some ⟨g7, 0, none⟩) (t.exts.length + 1) cap7); have ht8 := PA.out.tg.exts HOA.out HFF.out hown7 hgrow7 hg8 (cells_set hT7 (k := 5) (.slice (some ⟨g7, 0, none⟩) (t.exts.length + 1) cap7)); have PB := Lib.hid (PA.out.turn O.out hgrow7 (fun k e => (PA.out.tg.x.lt k e).1) hg8 ht8); have cg := (tg_cells hT7).2.2.2.2.2.1; have fg := cells_frozen 5 hT7; clear hown7 hgrow7 hlies7 hT7 hg8 ht8)
                              go_roundw
                              case rel => exact ⟨k + 1 + un, _, _, _, PB, KX⟩
                              case measure => rw [atK_rd PB.out.rd, atK_rd P.out.rd]; omega
    case rest =>
      clear P0 P1 HA Hp hp8 K0
      obtain ⟨k, t, ve, vv, vx, us, P, K⟩ := hcut
      obtain ⟨ea, en, ec, rfl⟩ := own_slice P.out.tg.oe
      obtain ⟨va, vn, vc, rfl⟩ := own_slice P.out.tg.ov
      obtain ⟨xa, xn, xc, rfl⟩ := own_slice P.out.tg.x
      obtain ⟨p, hp⟩ : ∃ p, hereP (pieces s) k = p := ⟨_, rfl⟩
      have HA := Lib.hid (fun w5 (h : RefRd w5 B g cap s k) => HH.out k w5 h P.out.le)
      rw [hp] at HA
      have hp8 : p.size ≤ 8 := by rw [← hp]; exact here_size _ _
      have Hp := Lib.hid hp
      clear hp
      by_cases hx : p = sX
      · skip
        have hq1 : (p.toList == [120]) = true := by
          rw [hx]
          decide +kernel
        have hq2 : (!(p.toList == [120])) = false := by rw [hq1]; rfl
        have hlt : k < (pieces s).length := by obtain ⟨_, _, h, _, _⟩ := here_ok (L := pieces s) (k := k) (by rw [Hp.out, hx]; exact okk_x); exact h
        have KP := Lib.hid (K.out.x (by rw [Hp.out]; exact hx))
        clear hx
        go_upto_region 43 with (go_at_call 46; (with_reducible refine (HA.out _ P.out.rd).mono ?_); rintro e w6 ⟨rfl, hb_w6⟩; have P1 := Lib.hid (P.out.below hb_w6); clear hb_w6)
        obtain ⟨x0, x1, x2⟩ := P1.out.rd.cells
        have fx := cells_frozen 1 P1.out.rd.blk
        go_upto_region 44 with fail
        have P7 := Lib.hid (P1.out.step O.out (v := (k : Int) + 1) (by omega) hlt)
        obtain ⟨W7, hW7⟩ : ∃ x, w6.setCell ⟨B, 1, none⟩ (.int .i64 ((k : Int) + 1)) = x := ⟨_, rfl⟩
        rw [hW7] at P7 ⊢
        clear hW7 x0 x1 x2 fx
        have SB := Lib.hid (subs_ref7 1 P7.out.rd hgB hs P7.out.le 1 rfl)
        go_upto_region 45 with (go_at_call 55; (with_reducible refine SB.out.mono ?_); rintro e w8 ⟨u, m, rfl, hq, hend⟩; obtain ⟨ua, un, uc, rfl⟩ := own_slice hq.own; obtain rfl : un = m := own_len hq.own; have P8 := Lib.hid (P7.out.subs O.out hq); have cx := (tg_cells P8.out.tg.hb).2.2.2.2.2.2.1; have fx := cells_frozen 6 P8.out.tg.hb)
        have hg9 := grown_setF (World.grownBy.refl w8 (some T)) 6 (.slice ua un uc)
        have ht9 := P8.out.tg.priv (l := fromL (pieces s) (k + 1) un) (u := .slice ua un uc) (by rw [fromL_len]; exact hq.own.mono P7.out.tg.nh) (P7.out.tg.far hq.own) K.out.p hg9 (cells_set P8.out.tg.hb (k := 6) (.slice ua un uc))
        have P9 := Lib.hid (P8.out.turn O.out (World.grownBy.refl w8 none) (by simp) hg9 ht9)
        have HALL := Lib.hid (And.intro hq.all hend)
        obtain ⟨W9, hW9⟩ : ∃ x, w8.setCell ⟨T, 6, none⟩ (.slice ua un uc) = x := ⟨_, rfl⟩
        rw [hW9] at P9 ⊢
        clear hW9 hg9 ht9 hq hend cx fx P8
        have c9 := (tg_cells P9.out.tg.hb).2.2.2.2.2.2.1
        by_cases hm0 : un = 0
        · have hmz : ((un : Int) == 0) = true := by rw [beq_iff_eq]; omega
          have HE := Lib.hid (show outP (readS s) = (pNo, some (wrongP s (k + 1 + un))) from by subst hm0; exact KP.out.nil HALL.out.2)
          clear hm0
          go_wp2_with (first | (go_at_call 48; (with_reducible refine (WR.out (k + 1 + un) _ P9.out.rd).mono ?_); rintro e wE ⟨x, hxE, rfl, hbE⟩; have PE := Lib.hid (P9.out.below hbE); have HXE := Lib.hid hxE; clear hxE hbE) | (refine wpList_store_row rfl _ _ _ rfl _ _ rfl rfl _ _ PE.out.rb gotSize rfl (by simp [Value.oneCell']) ?_))
          refine bodyPost_ret (results_cell_row rfl _ _ w.heap.size 54 #[.string ⟨#[]⟩, .slice none 0 0, .string ⟨#[]⟩, .string ⟨#[]⟩, .slice none 0 0, .slice none 0 0, .slice none 0 0, .string ⟨#[]⟩, .int .i64 x.1, .int .i64 (x.2.1 : Int), .string x.2.2] (0, 0) _ rfl (setRow_heap _ _ _ _ _ _ PE.out.rb) Tryz.underlying54 rfl gotSize) rfl ?_
          exact ⟨_, rfl, by rw [HP.out, HE.out]; exact .inl ⟨x, by rw [HXE.out], rfl⟩, below_setRowQ PE.out.fr (Nat.le_refl _) _⟩
        · have hmz : ((un : Int) == 0) = false := by rw [beq_eq_false_iff_ne]; omega
          have hmp : 0 < un := by omega
          clear hm0
          obtain ⟨x0, x1, x2⟩ := P9.out.rd.cells
          by_cases hl : k + 1 + un < (pieces s).length
          · have hli : (((k + 1 + un : Nat) : Int)) < ((pieces s).length : Int) := by omega
            have HE := Lib.hid (show outP (readS s) = (pNo, some (wrongP s (k + 1 + un))) from KP.out.wrong hmp (fun i hi => (HALL.out.1 i hi).2) HALL.out.2 hl)
            clear hl
            go_wp2_with fail
            go_quiet (fail)
            have PQ := Lib.hid (P9.out.below (below_drewN (Below.refl _ _) nq))
            go_wp2_with (first | (go_at_call 48; (with_reducible refine (WR.out (k + 1 + un) _ PQ.out.rd).mono ?_); rintro e wE ⟨x, hxE, rfl, hbE⟩; have PE := Lib.hid (PQ.out.below hbE); have HXE := Lib.hid hxE; clear hxE hbE) | (refine wpList_store_row rfl _ _ _ rfl _ _ rfl rfl _ _ PE.out.rb gotSize rfl (by simp [Value.oneCell']) ?_))
            refine bodyPost_ret (results_cell_row rfl _ _ w.heap.size 54 #[.string ⟨#[]⟩, .slice none 0 0, .string ⟨#[]⟩, .string ⟨#[]⟩, .slice none 0 0, .slice none 0 0, .slice none 0 0, .string ⟨#[]⟩, .int .i64 x.1, .int .i64 (x.2.1 : Int), .string x.2.2] (0, 0) _ rfl (setRow_heap _ _ _ _ _ _ PE.out.rb) Tryz.underlying54 rfl gotSize) rfl ?_
            exact ⟨_, rfl, by rw [HP.out, HE.out]; exact .inl ⟨x, by rw [HXE.out], rfl⟩, below_setRowQ PE.out.fr (Nat.le_refl _) _⟩
          · have hli : ¬ (((k + 1 + un : Nat) : Int)) < ((pieces s).length : Int) := by omega
            have HE := Lib.hid (show outP (readS s) = ({ t with priv := fromL (pieces s) (k + 1) un }, none) from KP.out.fin hmp (fun i hi => (HALL.out.1 i hi).2) (by omega))
            clear hl
            go_wp2_with fail
            go_quiet (fail)
            have PE := Lib.hid (P9.out.below (below_drewN (Below.refl _ _) nq))
            obtain ⟨m0, m1, m2, m3, m4, m5, m6, m7⟩ := tg_cells PE.out.tg.hb
            go_wp2_with (refine wpList_store_row rfl _ _ _ rfl _ _ rfl rfl _ _ PE.out.rb gotSize rfl (by simp [Value.oneCell']) ?_)
            refine bodyPost_ret (results_cell_row rfl _ _ w.heap.size 54 #[.string t.lang, .slice ea en ec, .string t.script, .string t.region, .slice va vn vc, .slice xa xn xc, .slice ua un uc, .string ⟨#[]⟩, .int .i64 0, .int .i64 0, .string ⟨#[]⟩] (0, 0) _ rfl (setRow_heap _ _ _ _ _ _ PE.out.rb) Tryz.underlying54 rfl gotSize) rfl ?_
            have hti := (PE.out.tg.kept (grown_setRowQ _ w.heap.size #[.string t.lang, .slice ea en ec, .string t.script, .string t.region, .slice va vn vc, .slice xa xn xc, .slice ua un uc, .string ⟨#[]⟩, .int .i64 0, .int .i64 0, .string ⟨#[]⟩]) (fun e => by have := Option.some.inj e; have h1 := O.out.rg; have h2 := O.out.gb; have h3 := O.out.bt; omega) (fun k e => by have := Option.some.inj e; have h1 := O.out.rg; have h2 := O.out.gb; have h3 := O.out.bt; have h4 := O.out.tn; omega)).tag K.out.g
            refine ⟨_, rfl, ?_, below_setRowQ PE.out.fr (Nat.le_refl _) _⟩
            rw [HP.out, HE.out]
            have hgr : ({ t with priv := fromL (pieces s) (k + 1) un } : TagM).grand = ByteArray.empty := K.out.g
            refine .inr ⟨{ t with priv := fromL (pieces s) (k + 1) un }, .slice ea en ec, .slice va vn vc, .slice xa xn xc, .slice ua un uc, rfl, ?_, ?_⟩
            · rw [hgr]; rfl
            · show TagIs _ (.agg #[.string t.lang, .slice ea en ec, .string t.script, .string t.region, .slice va vn vc, .slice xa xn xc, .slice ua un uc, .string t.grand]) _
              rw [show (Value.string t.grand) = Value.string ⟨#[]⟩ from congrArg Value.string K.out.g]
              exact hti
      · skip
        have hq1 : (p.toList == [120]) = false := by
          have h := toList_ne hx
          rwa [show sX.toList = [120] by unfold sX; rw [ByteArray.toList_eq]] at h
        have hq2 : (!(p.toList == [120])) = true := by rw [hq1]; rfl
        have HX := Lib.hid (show hereP (pieces s) k ≠ sX by rw [Hp.out]; exact hx)
        clear hx
        go_upto_region 47 with (go_at_call 46; (with_reducible refine (HA.out _ P.out.rd).mono ?_); rintro e w6 ⟨rfl, hb_w6⟩; have P1 := Lib.hid (P.out.below hb_w6); clear hb_w6)
        obtain ⟨x0, x1, x2⟩ := P1.out.rd.cells
        by_cases hl : k < (pieces s).length
        · have hli : (((k : Nat) : Int)) < ((pieces s).length : Int) := by omega
          have HE := Lib.hid (show outP (readS s) = (pNo, some (wrongP s (k))) from K.out.n HX.out hl)
          clear hl
          go_wp2_with fail
          go_quiet (fail)
          have PQ := Lib.hid (P1.out.below (below_drewN (Below.refl _ _) nq))
          go_wp2_with (first | (go_at_call 48; (with_reducible refine (WR.out (k) _ PQ.out.rd).mono ?_); rintro e wE ⟨x, hxE, rfl, hbE⟩; have PE := Lib.hid (PQ.out.below hbE); have HXE := Lib.hid hxE; clear hxE hbE) | (refine wpList_store_row rfl _ _ _ rfl _ _ rfl rfl _ _ PE.out.rb gotSize rfl (by simp [Value.oneCell']) ?_))
          refine bodyPost_ret (results_cell_row rfl _ _ w.heap.size 54 #[.string ⟨#[]⟩, .slice none 0 0, .string ⟨#[]⟩, .string ⟨#[]⟩, .slice none 0 0, .slice none 0 0, .slice none 0 0, .string ⟨#[]⟩, .int .i64 x.1, .int .i64 (x.2.1 : Int), .string x.2.2] (0, 0) _ rfl (setRow_heap _ _ _ _ _ _ PE.out.rb) Tryz.underlying54 rfl gotSize) rfl ?_
          exact ⟨_, rfl, by rw [HP.out, HE.out]; exact .inl ⟨x, by rw [HXE.out], rfl⟩, below_setRowQ PE.out.fr (Nat.le_refl _) _⟩
        · have hli : ¬ (((k : Nat) : Int)) < ((pieces s).length : Int) := by omega
          have HE := Lib.hid (show outP (readS s) = (t, none) from K.out.f HX.out (by omega))
          clear hl
          go_wp2_with fail
          go_quiet (fail)
          have PE := Lib.hid (P1.out.below (below_drewN (Below.refl _ _) nq))
          obtain ⟨m0, m1, m2, m3, m4, m5, m6, m7⟩ := tg_cells PE.out.tg.hb
          go_wp2_with (refine wpList_store_row rfl _ _ _ rfl _ _ rfl rfl _ _ PE.out.rb gotSize rfl (by simp [Value.oneCell']) ?_)
          refine bodyPost_ret (results_cell_row rfl _ _ w.heap.size 54 #[.string t.lang, .slice ea en ec, .string t.script, .string t.region, .slice va vn vc, .slice xa xn xc, (.slice none 0 0), .string ⟨#[]⟩, .int .i64 0, .int .i64 0, .string ⟨#[]⟩] (0, 0) _ rfl (setRow_heap _ _ _ _ _ _ PE.out.rb) Tryz.underlying54 rfl gotSize) rfl ?_
          have hti := (PE.out.tg.kept (grown_setRowQ _ w.heap.size #[.string t.lang, .slice ea en ec, .string t.script, .string t.region, .slice va vn vc, .slice xa xn xc, (.slice none 0 0), .string ⟨#[]⟩, .int .i64 0, .int .i64 0, .string ⟨#[]⟩]) (fun e => by have := Option.some.inj e; have h1 := O.out.rg; have h2 := O.out.gb; have h3 := O.out.bt; omega) (fun k e => by have := Option.some.inj e; have h1 := O.out.rg; have h2 := O.out.gb; have h3 := O.out.bt; have h4 := O.out.tn; omega)).tag K.out.g
          refine ⟨_, rfl, ?_, below_setRowQ PE.out.fr (Nat.le_refl _) _⟩
          rw [HP.out, HE.out]
          have hgr : (t : TagM).grand = ByteArray.empty := K.out.g
          refine .inr ⟨t, .slice ea en ec, .slice va vn vc, .slice xa xn xc, (.slice none 0 0), rfl, ?_, ?_⟩
          · rw [hgr]; rfl
          · show TagIs _ (.agg #[.string t.lang, .slice ea en ec, .string t.script, .string t.region, .slice va vn vc, .slice xa xn xc, (.slice none 0 0), .string t.grand]) _
            rw [show (Value.string t.grand) = Value.string ⟨#[]⟩ from congrArg Value.string K.out.g]
            exact hti
end Go.Proofs.YtpnhjpplfjamkaaGreatDoor
