/-
  Package check: rowsOf, setsOf, known: sets as maps of the call's own, in memory.
-/
import Derived.Test.YtbafmnafhaoggaaGreatDoorZHeads
import Derived.Test.YtbafmnafhaoggaaGreatDoorZLik
import Derived.Test.YtbafmnafhaoggaaGreatDoorOMath
import Derived.Test.YtbafmnafhaoggaaGreatDoorAOld
import Derived.Test.YtbafmnafhaoggaaGreatDoorYRights
namespace Go.Proofs.YtbafmnafhaoggaaGreatDoor
open Go Go.RowKit Go.Maps

theorem RowC.openO {α : Type} {f : α → List Value} {W : World} {v : Value} {sz : Nat} {l : List α} (h : RowC W v sz (l.map f)) : ∃ ao cap, v = .slice ao l.length cap ∧ ∀ k x, l[k]? = some x → ∃ g o, ao = some ⟨g, o, none⟩ ∧ ∀ j y, (f x)[j]? = some y → W.cell? ⟨g, o + k * sz + j, none⟩ = some y := by
  obtain ⟨ao, cap, rfl, hc⟩ := h
  refine ⟨ao, cap, by rw [List.length_map], fun k x hx => hc k (f x) (by rw [List.getElem?_map, hx]; rfl)⟩
theorem RowC.openM {α : Type} {f : α → List Value} {W : World} {ao : Option Addr} {n cap sz : Nat} {l : List α} (h : RowC W (.slice ao n cap) sz (l.map f)) : ∀ k x, l[k]? = some x → ∃ g o, ao = some ⟨g, o, none⟩ ∧ ∀ W', Below W.heap.size W W' → ∀ j c, (f x)[j]? = some c → W'.cell? ⟨g, o + k * sz + j, none⟩ = some c := by
  intro k x hx
  obtain ⟨ao', cap', e, hc⟩ := h
  injection e with e1 e2 e3
  subst e1
  obtain ⟨g, o, h1, h2⟩ := hc k (f x) (by rw [List.getElem?_map, hx]; rfl)
  exact ⟨g, o, h1, fun W' hb j c hj => (hb.cell (p := ⟨g, o + k * sz + j, none⟩) (lt_cellZ (h2 j c hj))).trans (h2 j c hj)⟩
/-- A set that a map keeps. -/
def SetO (W : World) (M : Nat) (t : TypeId) (K : List Lit) : Prop := W.ownsMap Tryz.prog t (plainElem (H := Unit) Tryz.prog 4) M K.length (setOf (.lit (.bool true)) K)
set_option maxRecDepth 100000 in
theorem SetO.below {W W' : World} {M : Nat} {t : TypeId} {K : List Lit} (h : SetO W M t K) (hb : Below W.heap.size W W') : SetO W' M t K := ownsMap_blockN h (hb.block _ (World.ownsMap.lt h))
set_option maxRecDepth 100000 in
open Classical in
theorem SetO.look {W : World} {M : Nat} {t tm : TypeId} {K : List Lit} {kv : Value} {l : Lit} (h : SetO W M t K) (KY : Keyed Tryz.prog t) (hm : Tryz.prog.underlying tm = some (.map t 4)) (hK : ∀ x ∈ K, WideAt.IsKeyLit x) (hkey : keyOf Tryz.prog t kv = some l) :
    (Instr.lookup tm (.map (some M)) kv false).run Tryz.prog W = .ok (.bool (decide (l ∈ K))) W := by
  obtain ⟨v, ps, hrun, hv⟩ := World.ownsMap.lookup h KY hm (zero_boolN W) (plainElem_bool Tryz.underlying4 false) hkey
  obtain ⟨c, rfl, hc⟩ := plainElem_bool_invN hv
  simp only [Prod.mk.injEq] at hc
  have e := at_setOf (.lit (.bool true)) (.lit (.bool false)) l K.reverse (fun x hx => hK x (List.mem_reverse.1 hx))
  rw [List.reverse_reverse] at e
  rw [e] at hc
  have hc1 := hc.1
  by_cases hm : l ∈ K
  · rw [if_pos (List.mem_reverse.2 hm)] at hc1
    injection hc1 with hc1
    injection hc1 with hc1
    rw [hrun, ← hc1, decide_eq_true hm]
  · rw [if_neg (fun h => hm (List.mem_reverse.1 h))] at hc1
    injection hc1 with hc1
    injection hc1 with hc1
    rw [hrun, ← hc1, decide_eq_false hm]

/-! Keys of three texts. -/
def kL3 (p : K3) : Lit := .string (keyBytes [.string p.1.data.toList, .string p.2.1.data.toList, .string p.2.2.data.toList])
theorem kL3_lit (p : K3) : WideAt.IsKeyLit (kL3 p) := by simp [kL3, WideAt.IsKeyLit]
theorem keyBytes_three (a b c : List UInt8) : keyBytes [.string a, .string b, .string c] = bytesBE 8 a.length ++ (a ++ (bytesBE 8 b.length ++ (b ++ (bytesBE 8 c.length ++ c)))) := by
  simp [keyBytes, Lit.keyBytes, List.append_assoc]
theorem kL3_inj {p q : K3} (h1 : p.1.size ≤ maxLen ∧ p.2.1.size ≤ maxLen ∧ p.2.2.size ≤ maxLen) (h2 : q.1.size ≤ maxLen ∧ q.2.1.size ≤ maxLen ∧ q.2.2.size ≤ maxLen) (h : kL3 p = kL3 q) : p = q := by
  unfold kL3 at h
  injection h with h
  rw [keyBytes_three, keyBytes_three] at h
  have hb : maxLen < 256 ^ 8 := by decide
  have l : ∀ s : ByteArray, s.data.toList.length = s.size := fun s => by rw [Array.length_toList]; rfl
  obtain ⟨e1, h⟩ := List.append_inj h (by rw [length_bytesBE, length_bytesBE])
  have e1 := bytesBE_inj (by rw [l]; omega) (by rw [l]; omega) e1
  obtain ⟨e2, h⟩ := List.append_inj h e1
  obtain ⟨e3, h⟩ := List.append_inj h (by rw [length_bytesBE, length_bytesBE])
  have e3 := bytesBE_inj (by rw [l]; omega) (by rw [l]; omega) e3
  obtain ⟨e4, h⟩ := List.append_inj h e3
  obtain ⟨_, e6⟩ := List.append_inj h (by rw [length_bytesBE, length_bytesBE])
  obtain ⟨p1, p2, p3⟩ := p
  obtain ⟨q1, q2, q3⟩ := q
  have d1 : p1 = q1 := ofL_ext e2
  have d2 : p2 = q2 := ofL_ext e4
  have d3 : p3 = q3 := ofL_ext e6
  rw [d1, d2, d3]
set_option maxRecDepth 100000 in
theorem arr3Keyed : Keyed Tryz.prog 76 := Keyed.of_law (deep_law_laid laidOutN (m := 2) (by omega) (of_decide_eq_true (by kernel_rfl)) (by kernel_rfl) (by kernel_rfl))
set_option maxRecDepth 100000 in
theorem arr3Type : Tryz.prog.keyType 76 = true := by kernel_rfl
theorem cellsArr3 : Tryz.prog.cellsOf 76 = 3 := by kernel_rfl
set_option maxRecDepth 100000 in
theorem keyArr3 {a b c : ByteArray} (ha : a.size ≤ maxLen) (hb : b.size ≤ maxLen) (hc : c.size ≤ maxLen) : keyOf Tryz.prog 76 (.agg #[.string a, .string b, .string c]) = some (kL3 (a, b, c)) := by
  have hu := Tryz.underlying76
  have hs := Tryz.underlying9
  obtain ⟨m, hm⟩ := typesN
  have hf : (Value.agg #[.string a, .string b, .string c]).formed Tryz.prog 76 = true := by simp [Value.formed, hu, cellsArr3]
  unfold keyOf
  rw [hu]
  simp only [arr3Type, hf, hm, Bool.and_self, if_true]
  have r3 : List.range 3 = [0, 1, 2] := rfl
  simp [Program.keyLits, hu, hs, cellsArr3, cellsStrN, Value.cells, r3, ha, hb, hc, kL3]
def rowsK (L : List Lk) : List Lit := L.map fun x => kL3 (lkK x)
theorem rowsK_lits (L : List Lk) : ∀ x ∈ rowsK L, WideAt.IsKeyLit x := fun x hx => by obtain ⟨y, _, rfl⟩ := List.mem_map.1 hx; exact kL3_lit _
set_option maxRecDepth 100000 in
theorem rowsK_has {L : List Lk} {t : ByteArray} (hs : ∀ x ∈ L, LkS x) (ht : t.size ≤ 1000) : (kL3 (t, ⟨#[]⟩, ⟨#[]⟩) ∈ rowsK L) ↔ rowsB L t = true := by
  unfold rowsK rowsB
  rw [List.mem_map, List.any_eq_true]
  constructor
  · rintro ⟨x, hx, he⟩
    have hz := hs x hx
    refine ⟨x, hx, decide_eq_true (kL3_inj ?_ ?_ he)⟩
    · refine ⟨?_, ?_, ?_⟩
      · have := hz x.l (by simp [lkT]); unfold maxLen; show x.l.size ≤ _; omega
      · have := hz x.s (by simp [lkT]); unfold maxLen; show x.s.size ≤ _; omega
      · have := hz x.r (by simp [lkT]); unfold maxLen; show x.r.size ≤ _; omega
    · exact ⟨by unfold maxLen; show t.size ≤ _; omega, by show (0 : Nat) ≤ maxLen; exact Nat.zero_le _, by show (0 : Nat) ≤ maxLen; exact Nat.zero_le _⟩
  · rintro ⟨x, hx, he⟩
    exact ⟨x, hx, by rw [of_decide_eq_true he]⟩
set_option maxRecDepth 100000 in
open Classical in
theorem rows_look {W : World} {M : Nat} {L : List Lk} {t : ByteArray} (h : SetO W M 76 (rowsK L)) (hs : ∀ x ∈ L, LkS x) (ht : t.size ≤ 1000) :
    (Instr.lookup 70 (.map (some M)) (.agg #[.string t, .string ⟨#[]⟩, .string ⟨#[]⟩]) false).run Tryz.prog W = .ok (.bool (rowsB L t)) W := by
  have hz : (⟨#[]⟩ : ByteArray).size ≤ maxLen := Nat.zero_le _
  have e := SetO.look h arr3Keyed Tryz.underlying70 (rowsK_lits L) (keyArr3 (a := t) (b := ⟨#[]⟩) (c := ⟨#[]⟩) (by unfold maxLen; omega) hz hz)
  rw [e]
  have := rowsK_has hs ht
  cases hb : rowsB L t with
  | true => rw [decide_eq_true (this.2 hb)]
  | false => rw [decide_eq_false (fun h => by rw [this.1 h] at hb; cases hb)]

/-! Keys of one text. -/
def keyT (s : ByteArray) : Lit := .string s.data.toList
theorem keyT_lit (s : ByteArray) : WideAt.IsKeyLit (keyT s) := by simp [keyT, WideAt.IsKeyLit]
theorem keyT_inj {a b : ByteArray} (h : keyT a = keyT b) : a = b := by injection h with h; exact ofL_ext h
set_option maxRecDepth 100000 in
theorem strKeyed : Keyed Tryz.prog 9 := Maps.string_keyed Tryz.underlying9
set_option maxRecDepth 100000 in
theorem keyText {s : ByteArray} (h : s.size ≤ maxLen) : keyOf Tryz.prog 9 (.string s) = some (keyT s) := WideMaps.keyOf_string_mk Tryz.underlying9 h
def setsK (L : List Mb) : List Lit := L.map fun x => keyT x.st
theorem setsK_lits (L : List Mb) : ∀ x ∈ setsK L, WideAt.IsKeyLit x := fun x hx => by obtain ⟨y, _, rfl⟩ := List.mem_map.1 hx; exact keyT_lit _
set_option maxRecDepth 100000 in
open Classical in
theorem sets_look {W : World} {M : Nat} {L : List Mb} {s : ByteArray} (h : SetO W M 9 (setsK L)) (hs : s.size ≤ maxLen) :
    (Instr.lookup 72 (.map (some M)) (.string s) false).run Tryz.prog W = .ok (.bool (setB L s)) W := by
  have e := SetO.look h strKeyed Tryz.underlying72 (setsK_lits L) (keyText hs)
  rw [e]
  have : keyT s ∈ setsK L ↔ setB L s = true := by
    unfold setsK setB
    rw [List.mem_map, List.any_eq_true]
    constructor
    · rintro ⟨x, hx, he⟩
      exact ⟨x, hx, decide_eq_true (keyT_inj he)⟩
    · rintro ⟨x, hx, he⟩
      exact ⟨x, hx, by rw [of_decide_eq_true he]⟩
  cases hb : setB L s with
  | true => rw [decide_eq_true (this.2 hb)]
  | false => rw [decide_eq_false (fun h => by rw [this.1 h] at hb; cases hb)]
set_option maxRecDepth 100000 in
theorem SetO.start (w : World) (t : TypeId) : SetO (w.alloc (.map #[] 0)) w.heap.size t [] := World.ownsMap_made w _ _ _
set_option maxRecDepth 100000 in
theorem SetO.more {w' : World} {M : Nat} {t : TypeId} {K : List Lit} {l : Lit} (h : w'.ownsMap Tryz.prog t (plainElem (H := Unit) Tryz.prog 4) M (K.length + 1) ((setOf (.lit (.bool true)) K).put l (.lit (.bool true)))) : SetO w' M t (K ++ [l]) := by
  unfold SetO
  rw [setOf_snoc, List.length_append]
  exact h

theorem oldAls_any (v : Value) (L : List Al) (w : World) (hv : RowC w v 6 (L.map alC)) (hl : L.length ≤ 4000) (hs : ∀ x ∈ L, AlS x) :
    Calls Tryz.prog 27 #[v] w fun e w' => ∃ M, e = .returned (.map (some M)) ∧ OldN w' M (kns L) ∧ Below w.heap.size w w' := by
  obtain ⟨ao, cap, rfl, hc⟩ := hv.openO
  have e : (kns L).length = L.length := by unfold kns; rw [List.length_map]
  have h := oldNames_all (kns L) ao cap w (kns_fits hs) (by rw [e]; omega) (fun i x hx => by
    unfold kns at hx
    rw [List.getElem?_map] at hx
    obtain ⟨y, hy, rfl⟩ := Option.map_eq_some_iff.1 hx
    obtain ⟨g, o, e, hcc⟩ := hc i y hy
    exact ⟨g, o, y.l, y.s, y.r, e, hcc 0 _ rfl, hcc 1 _ rfl, hcc 2 _ rfl, hcc 3 _ rfl, hcc 4 _ rfl, hcc 5 _ rfl⟩)
  rwa [e] at h
set_option maxRecDepth 100000 in
set_option maxHeartbeats 4000000 in
theorem rowsOf_any (v : Value) (L : List Lk) (w : World) (hv : RowC w v 6 (L.map lkC)) (hl : L.length ≤ 4000) (hs : ∀ x ∈ L, LkS x) :
    Calls Tryz.prog 28 #[v] w fun e w' => ∃ M, e = .returned (.map (some M)) ∧ SetO w' M 76 (rowsK L) ∧ Below w.heap.size w w' := by
  obtain ⟨ao, cap, rfl, hc⟩ := hv.openO
  have HC := Lib.hid hc
  have HS := Lib.hid hs
  have HM0 := Lib.hid (SetO.start w 76)
  have HB0 := Lib.hid ((Below.refl w.heap.size w).alloc (Nat.le_refl _) (.map #[] 0))
  have hmm := @run_makeMap Tryz.prog
  clear hv hc hs
  go_enter Tryz.func28, Tryz.ntmps28
  go_wp2_with fail
  obtain ⟨M, hM⟩ : ∃ M, w.heap.size = M := ⟨_, rfl⟩
  rw [hM] at HM0 HB0 ⊢
  have HMM := Lib.hid hM
  clear hM
  go_loopw [9] (fun i wr => ∃ n : Nat, n ≤ L.length ∧ i = .int .i64 (n : Int) ∧ SetO wr M 76 (rowsK (L.take n)) ∧ Below M w wr) (fun i _ => L.length - (intOf i).toNat)
  case atStart => exact ⟨0, Nat.zero_le _, rfl, HM0.out, HB0.out⟩
  case round =>
    obtain ⟨n, hn, rfl, hO, hB⟩ := hrel
    by_cases hlt : n < L.length
    · have hlt' : (n : Int) < (L.length : Int) := by omega
      have hn0 : (0 : Int) ≤ (n : Int) := by omega
      obtain ⟨x, hx⟩ : ∃ x, L[n]? = some x := ⟨_, List.getElem?_eq_getElem hlt⟩
      obtain ⟨g, o, rfl, hcc⟩ := HC.out n x hx
      have hbw : Below w.heap.size w wr := by rw [HMM.out]; exact hB
      have e0 := show wr.cell? ⟨g, o + n * 6, none⟩ = some (.string x.l) from (hbw.cell (p := ⟨g, o + n * 6, none⟩) (lt_cellZ (hcc 0 _ rfl))).trans (hcc 0 _ rfl)
      have e1 := show wr.cell? ⟨g, o + n * 6 + 1, none⟩ = some (.string x.s) from (hbw.cell (p := ⟨g, o + n * 6 + 1, none⟩) (lt_cellZ (hcc 1 _ rfl))).trans (hcc 1 _ rfl)
      have e2 := show wr.cell? ⟨g, o + n * 6 + 2, none⟩ = some (.string x.r) from (hbw.cell (p := ⟨g, o + n * 6 + 2, none⟩) (lt_cellZ (hcc 2 _ rfl))).trans (hcc 2 _ rfl)
      have e3 := show wr.cell? ⟨g, o + n * 6 + 3, none⟩ = some (.string x.tl) from (hbw.cell (p := ⟨g, o + n * 6 + 3, none⟩) (lt_cellZ (hcc 3 _ rfl))).trans (hcc 3 _ rfl)
      have e4 := show wr.cell? ⟨g, o + n * 6 + 4, none⟩ = some (.string x.ts) from (hbw.cell (p := ⟨g, o + n * 6 + 4, none⟩) (lt_cellZ (hcc 4 _ rfl))).trans (hcc 4 _ rfl)
      have e5 := show wr.cell? ⟨g, o + n * 6 + 5, none⟩ = some (.string x.tr) from (hbw.cell (p := ⟨g, o + n * 6 + 5, none⟩) (lt_cellZ (hcc 5 _ rfl))).trans (hcc 5 _ rfl)
      have hz := HS.out x (List.mem_of_getElem? hx)
      have hkey := keyArr3 (a := x.l) (b := x.s) (c := x.r) (by have := hz x.l (by simp [lkT]); unfold maxLen; omega) (by have := hz x.s (by simp [lkT]); unfold maxLen; omega) (by have := hz x.r (by simp [lkT]); unfold maxLen; omega)
      have HX := Lib.hid (show rowsK (L.take (n + 1)) = rowsK (L.take n) ++ [kL3 (x.l, x.s, x.r)] by unfold rowsK; rw [List.take_add_one, hx, List.map_append]; rfl)
      have HLN := Lib.hid (show (rowsK (L.take n)).length = n by unfold rowsK; rw [List.length_map, List.length_take]; omega)
      obtain ⟨W5, hW5⟩ : ∃ W, wr.alloc (.cells #[.string x.l, .string x.s, .string x.r, .string x.tl, .string x.ts, .string x.tr] 75) = W := ⟨_, rfl⟩
      have hb5 : Below wr.heap.size wr W5 := by rw [← hW5]; exact (Below.refl _ _).alloc (Nat.le_refl _) _
      have hX5 : W5.heap[wr.heap.size]? = some (.cells #[.string x.l, .string x.s, .string x.r, .string x.tl, .string x.ts, .string x.tr] 75 (0, 0)) := by rw [← hW5]; exact World.alloc_heap_new wr _
      obtain ⟨z0, z1, z2, z3, z4, z5⟩ := cells6 hX5
      have HO5 := Lib.hid (hO.below hb5)
      have HB5 := Lib.hid (hB.trans (hb5.mono (by have := hB.size; have := HMM.out; omega)))
      have HW5 := Lib.hid hW5
      have HL := Lib.hid (show (rowsK (L.take n)).length < maxLen by rw [HLN.out]; unfold maxLen; omega)
      have HHW := Lib.hid (show M ≤ W5.heap.size by have := HB5.out.size; have := HMM.out; omega)
      clear hcc hx hbw hz hb5 hX5 hW5 hO hB
      go_upto_region 5 with fail
      try rw [HW5.out]
      go_wp2_with (at_mapUpdate; refine wpList_mapUpdate_own _ rfl _ _ _ 70 rfl 76 4 arr3Keyed Tryz.underlying70 (plainElem (H := Unit) Tryz.prog 4) M _ _ rfl HO5.out HL.out _ _ _ rfl rfl hkey _ [] (plainElem_bool Tryz.underlying4 true) ?_; intro w6 hown6 hgrow6; have HO6 := Lib.hid (SetO.more hown6); have HG6 := Lib.hid (HB5.out.grown hgrow6 HHW.out (fun j hj => by cases hj; exact Nat.le_refl _)); clear hown6 hgrow6)
      go_roundw
      case rel => exact ⟨n + 1, by omega, by go_num, by rw [HX.out]; exact HO6.out, HG6.out⟩
      case measure => simp [intOf]; omega
    · obtain rfl : n = L.length := by omega
      have hki : ¬ (L.length : Int) < (L.length : Int) := by omega
      have HO := Lib.hid (show SetO wr M 76 (rowsK L) by have := hO; rwa [List.take_length] at this)
      clear hO
      go_wp2_with fail
      go_ret
      exact ⟨M, rfl, HO.out, by rw [HMM.out]; exact hB⟩

set_option maxRecDepth 100000 in
set_option maxHeartbeats 4000000 in
theorem setsOf_any (v : Value) (L : List Mb) (w : World) (hv : RowC w v 2 (L.map mbC)) (hl : L.length ≤ 4000) (hs : ∀ x ∈ L, MbS x) :
    Calls Tryz.prog 29 #[v] w fun e w' => ∃ M, e = .returned (.map (some M)) ∧ SetO w' M 9 (setsK L) ∧ Below w.heap.size w w' := by
  obtain ⟨ao, cap, rfl, hc⟩ := hv.openO
  have HC := Lib.hid hc
  have HS := Lib.hid hs
  have HM0 := Lib.hid (SetO.start w 9)
  have HB0 := Lib.hid ((Below.refl w.heap.size w).alloc (Nat.le_refl _) (.map #[] 0))
  have hmm := @run_makeMap Tryz.prog
  clear hv hc hs
  go_enter Tryz.func29, Tryz.ntmps29
  go_wp2_with fail
  obtain ⟨M, hM⟩ : ∃ M, w.heap.size = M := ⟨_, rfl⟩
  rw [hM] at HM0 HB0 ⊢
  have HMM := Lib.hid hM
  clear hM
  go_loopw [9] (fun i wr => ∃ n : Nat, n ≤ L.length ∧ i = .int .i64 (n : Int) ∧ SetO wr M 9 (setsK (L.take n)) ∧ Below M w wr) (fun i _ => L.length - (intOf i).toNat)
  case atStart => exact ⟨0, Nat.zero_le _, rfl, HM0.out, HB0.out⟩
  case round =>
    obtain ⟨n, hn, rfl, hO, hB⟩ := hrel
    by_cases hlt : n < L.length
    · have hlt' : (n : Int) < (L.length : Int) := by omega
      have hn0 : (0 : Int) ≤ (n : Int) := by omega
      obtain ⟨x, hx⟩ : ∃ x, L[n]? = some x := ⟨_, List.getElem?_eq_getElem hlt⟩
      obtain ⟨g, o, rfl, hcc⟩ := HC.out n x hx
      have hbw : Below w.heap.size w wr := by rw [HMM.out]; exact hB
      have e0 := show wr.cell? ⟨g, o + n * 2, none⟩ = some (.string x.st) from (hbw.cell (p := ⟨g, o + n * 2, none⟩) (lt_cellZ (hcc 0 _ rfl))).trans (hcc 0 _ rfl)
      have e1 := show wr.cell? ⟨g, o + n * 2 + 1, none⟩ = some (.string x.rg) from (hbw.cell (p := ⟨g, o + n * 2 + 1, none⟩) (lt_cellZ (hcc 1 _ rfl))).trans (hcc 1 _ rfl)
      have hkey := keyText (s := x.st) (by have := (HS.out x (List.mem_of_getElem? hx)).st; unfold maxLen; omega)
      have HX := Lib.hid (show setsK (L.take (n + 1)) = setsK (L.take n) ++ [keyT x.st] by unfold setsK; rw [List.take_add_one, hx, List.map_append]; rfl)
      have HLN := Lib.hid (show (setsK (L.take n)).length = n by unfold setsK; rw [List.length_map, List.length_take]; omega)
      obtain ⟨W5, hW5⟩ : ∃ W, wr.alloc (.cells #[.string x.st, .string x.rg] 82) = W := ⟨_, rfl⟩
      have hb5 : Below wr.heap.size wr W5 := by rw [← hW5]; exact (Below.refl _ _).alloc (Nat.le_refl _) _
      have hX5 : W5.heap[wr.heap.size]? = some (.cells #[.string x.st, .string x.rg] 82 (0, 0)) := by rw [← hW5]; exact World.alloc_heap_new wr _
      obtain ⟨z0, z1⟩ := cells2Z hX5
      have HO5 := Lib.hid (hO.below hb5)
      have HB5 := Lib.hid (hB.trans (hb5.mono (by have := hB.size; have := HMM.out; omega)))
      have HW5 := Lib.hid hW5
      have HL := Lib.hid (show (setsK (L.take n)).length < maxLen by rw [HLN.out]; unfold maxLen; omega)
      have HHW := Lib.hid (show M ≤ W5.heap.size by have := HB5.out.size; have := HMM.out; omega)
      clear hcc hx hbw hb5 hX5 hW5 hO hB
      go_upto_region 5 with fail
      try rw [HW5.out]
      go_wp2_with (at_mapUpdate; refine wpList_mapUpdate_own _ rfl _ _ _ 72 rfl 9 4 strKeyed Tryz.underlying72 (plainElem (H := Unit) Tryz.prog 4) M _ _ rfl HO5.out HL.out _ _ _ rfl rfl hkey _ [] (plainElem_bool Tryz.underlying4 true) ?_; intro w6 hown6 hgrow6; have HO6 := Lib.hid (SetO.more hown6); have HG6 := Lib.hid (HB5.out.grown hgrow6 HHW.out (fun j hj => by cases hj; exact Nat.le_refl _)); clear hown6 hgrow6)
      go_roundw
      case rel => exact ⟨n + 1, by omega, by go_num, by rw [HX.out]; exact HO6.out, HG6.out⟩
      case measure => simp [intOf]; omega
    · obtain rfl : n = L.length := by omega
      have hki : ¬ (L.length : Int) < (L.length : Int) := by omega
      have HO := Lib.hid (show SetO wr M 9 (setsK L) by have := hO; rwa [List.take_length] at this)
      clear hO
      go_wp2_with fail
      go_ret
      exact ⟨M, rfl, HO.out, by rw [HMM.out]; exact hB⟩

set_option maxRecDepth 100000 in
set_option maxHeartbeats 2000000 in
theorem known_any (M : Nat) (L : List Mb) (s : ByteArray) (w : World) (hs : s.size ≤ 1048576) (h : SetO w M 9 (setsK L)) :
    Calls Tryz.prog 34 #[.map (some M), .string s] w fun e w' => e = .returned (.bool (knownB L s)) ∧ w' = w := by
  have HM := Lib.hid (show knownB L s = if markS s then setB L (s.extract 1 s.size) else true from rfl)
  have hlk := sets_look (s := s.extract 1 s.size) h (by rw [ByteArray.size_extract]; unfold maxLen; omega)
  generalize setB L (s.extract 1 s.size) = z at *
  by_cases h0 : s.size = 0
  · have he := empty_true h0
    have hk : markS s = false := by unfold markS; rw [dif_neg (by omega)]
    rw [hk] at HM
    clear h0 hs hk hlk h
    go_enter Tryz.func34, Tryz.ntmps34
    go_wp2_with fail
    go_ret
    exact ⟨ret_bool HM.out.symm, rfl⟩
  · have h0' : 0 < s.size := by omega
    have he := empty_false h0'
    have h1 : (1 : Int) ≤ (s.size : Int) := by omega
    have hp := markS_pos h0'
    by_cases hc : s[0].toNat = 36
    · have hk : markS s = true := by rw [hp, decide_eq_true hc]; rfl
      have hq : ((s[0].toNat : Int) != 36) = false := by rw [bne_eq_false_iff_eq]; omega
      rw [hk] at HM
      clear h0 hs hk hp hc h
      go_enter Tryz.func34, Tryz.ntmps34
      go_wp2_with fail
      go_ret
      exact ⟨ret_bool HM.out.symm, rfl⟩
    · have hq : ((s[0].toNat : Int) != 36) = true := by rw [bne_iff_ne]; omega
      by_cases hd : s[0].toNat = 33
      · have hk : markS s = true := by rw [hp, decide_eq_true hd, Bool.or_true]
        have hr : ((s[0].toNat : Int) != 33) = false := by rw [bne_eq_false_iff_eq]; omega
        rw [hk] at HM
        clear h0 hs hk hp hc hd h
        go_enter Tryz.func34, Tryz.ntmps34
        go_wp2_with fail
        go_ret
        exact ⟨ret_bool HM.out.symm, rfl⟩
      · have hk : markS s = false := by rw [hp, decide_eq_false hc, decide_eq_false hd]; rfl
        have hr : ((s[0].toNat : Int) != 33) = true := by rw [bne_iff_ne]; omega
        rw [hk] at HM
        clear h0 hs hk hp hc hd hlk h
        go_enter Tryz.func34, Tryz.ntmps34
        go_wp2_with fail
        go_ret
        exact ⟨ret_bool HM.out.symm, rfl⟩
end Go.Proofs.YtbafmnafhaoggaaGreatDoor
