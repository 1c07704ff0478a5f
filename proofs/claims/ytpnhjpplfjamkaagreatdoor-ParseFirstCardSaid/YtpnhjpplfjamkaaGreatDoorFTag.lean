/-
  Tags field by field: what a tag's value holds; the document's Subtags.
-/
import Derived.Test.YtpnhjpplfjamkaaGreatDoorKinds
import Derived.Test.YtpnhjpplfjamkaaGreatDoorPieceR
import Derived.Deep.CutRange
namespace Go.Proofs.YtpnhjpplfjamkaaGreatDoor
open Go Go.RowKit

/-- A row of texts, readable cell by cell. -/
def Row (W : World) (v : Value) (l : List ByteArray) : Prop :=
  ∃ ao cap, v = .slice ao l.length cap ∧ ∀ i x, l[i]? = some x → ∃ g, ao = some ⟨g, 0, none⟩ ∧ W.cell? ⟨g, i, none⟩ = some (.string x)
theorem Row.below {W W' : World} {v : Value} {l : List ByteArray} (h : Row W v l) (hb : Below W.heap.size W W') : Row W' v l := by
  obtain ⟨ao, cap, rfl, hc⟩ := h
  refine ⟨ao, cap, rfl, fun i x hx => ?_⟩
  obtain ⟨g, h1, h2⟩ := hc i x hx
  refine ⟨g, h1, ?_⟩
  have hg : g < W.heap.size := by
    rcases Nat.lt_or_ge g W.heap.size with h' | h'
    · exact h'
    · simp [World.cell?, Array.getElem?_eq_none h'] at h2
  exact (hb.cell (p := ⟨g, i, none⟩) hg).trans h2
/-- A row of extensions. -/
def ExtRow (W : World) (v : Value) (l : List (ByteArray × List ByteArray)) : Prop :=
  ∃ ao cap, v = .slice ao l.length cap ∧ ∀ i x, l[i]? = some x → ∃ g vs, ao = some ⟨g, 0, none⟩ ∧ W.cell? ⟨g, i * 2, none⟩ = some (.string x.1) ∧ W.cell? ⟨g, i * 2 + 1, none⟩ = some vs ∧ Row W vs x.2
theorem ExtRow.below {W W' : World} {v : Value} {l : List (ByteArray × List ByteArray)} (h : ExtRow W v l) (hb : Below W.heap.size W W') : ExtRow W' v l := by
  obtain ⟨ao, cap, rfl, hc⟩ := h
  refine ⟨ao, cap, rfl, fun i x hx => ?_⟩
  obtain ⟨g, vs, h1, h2, h3, h4⟩ := hc i x hx
  have hg : g < W.heap.size := by
    rcases Nat.lt_or_ge g W.heap.size with h' | h'
    · exact h'
    · simp [World.cell?, Array.getElem?_eq_none h'] at h2
  exact ⟨g, vs, h1, (hb.cell (p := ⟨g, i * 2, none⟩) hg).trans h2, (hb.cell (p := ⟨g, i * 2 + 1, none⟩) hg).trans h3, h4.below hb⟩

/-- A tag, field by field. -/
structure TagM where
  lang : ByteArray
  extl : List ByteArray
  script : ByteArray
  region : ByteArray
  vars : List ByteArray
  exts : List (ByteArray × List ByteArray)
  priv : List ByteArray
  grand : ByteArray
def TagIs (W : World) (v : Value) (T : TagM) : Prop :=
  ∃ ve vv vx vp, v = .agg #[.string T.lang, ve, .string T.script, .string T.region, vv, vx, vp, .string T.grand] ∧ Row W ve T.extl ∧ Row W vv T.vars ∧ ExtRow W vx T.exts ∧ Row W vp T.priv
theorem TagIs.below {W W' : World} {v : Value} {T : TagM} (h : TagIs W v T) (hb : Below W.heap.size W W') : TagIs W' v T := by
  obtain ⟨ve, vv, vx, vp, rfl, h1, h2, h3, h4⟩ := h
  exact ⟨ve, vv, vx, vp, rfl, h1.below hb, h2.below hb, h3.below hb, h4.below hb⟩
/-- How long its rows and texts may be. -/
def TagFits (T : TagM) : Prop := T.extl.length ≤ 100 ∧ T.vars.length ≤ 100 ∧ T.exts.length ≤ 100 ∧ (∀ x ∈ T.exts, x.2.length ≤ 100) ∧ T.priv.length ≤ 100 ∧ T.grand.size ≤ 100

/-- A text, if it is there. -/
def oneT (s : ByteArray) : List ByteArray := if s.size = 0 then [] else [s]
def extT (x : ByteArray × List ByteArray) : List ByteArray := x.1 :: x.2
def privT (l : List ByteArray) : List ByteArray := if l.length = 0 then [] else ⟨#[120]⟩ :: l
def preT (l : List ByteArray) : List ByteArray := if l.length = 0 then [] else [⟨#[120]⟩]
theorem privT_pre (l : List ByteArray) : privT l = preT l ++ l := by
  unfold privT preT
  split
  · rename_i h; rw [List.eq_nil_of_length_eq_zero h]; rfl
  · rfl
/-- A tag's subtags. -/
def subtagsT (T : TagM) : List ByteArray :=
  if T.grand.size = 0 then oneT T.lang ++ T.extl ++ oneT T.script ++ oneT T.region ++ T.vars ++ T.exts.flatMap extT ++ privT T.priv else splS T.grand
theorem oneT_len (s : ByteArray) : (oneT s).length ≤ 1 := by unfold oneT; split <;> simp

/-- The row made so far. -/
def Acc (W0 : World) (L : List ByteArray) (v : Value) (wr : World) : Prop :=
  wr.ownsRow W0.heap.size 9 1 v L.length (strs L) ∧ Below W0.heap.size W0 wr
theorem Acc.start (W0 : World) : Acc W0 [] (.slice none 0 0) W0 := ⟨World.ownsRow_nil _ _ _ _, Below.refl _ _⟩
theorem Acc.push {W0 wr w2 : World} {L : List ByteArray} {v v' : Value} {x : ByteArray} {o : Obj} (h : Acc W0 L v wr)
    (h1 : w2.ownsRow W0.heap.size 9 1 v' (L.length + 1) (strs L ++ [.string x])) (hg : (wr.alloc o).grownBy w2 v.ownBlock) : Acc W0 (L ++ [x]) v' w2 := by
  have hB := h.2
  refine ⟨?_, (hB.alloc hB.size o).grown hg (by simp; have := hB.size; omega) (fun r e => (h.1.lt r e).1)⟩
  rw [List.length_append, strs_append]
  exact h1
theorem tag_cells {W : World} {B : Nat} {a b c d e f g h : Value} {t : TypeId} (hb : W.heap[B]? = some (.cells #[a, b, c, d, e, f, g, h] t (0, 0))) :
    W.cell? ⟨B, 0, none⟩ = some a ∧ W.cell? ⟨B, 1, none⟩ = some b ∧ W.cell? ⟨B, 2, none⟩ = some c ∧ W.cell? ⟨B, 3, none⟩ = some d ∧ W.cell? ⟨B, 4, none⟩ = some e ∧ W.cell? ⟨B, 5, none⟩ = some f ∧ W.cell? ⟨B, 6, none⟩ = some g ∧ W.cell? ⟨B, 7, none⟩ = some h := by
  simp [World.cell?, hb]

theorem lt_of_cellF {W : World} {a : Addr} {v : Value} (h : W.cell? a = some v) : a.block < W.heap.size := by
  rcases Nat.lt_or_ge a.block W.heap.size with h' | h'
  · exact h'
  · simp [World.cell?, Array.getElem?_eq_none h'] at h
theorem flat_len (l : List (ByteArray × List ByteArray)) (h : ∀ x ∈ l, x.2.length ≤ 100) (k : Nat) : ((l.take k).flatMap extT).length ≤ 101 * k := by
  induction k generalizing l with
  | zero => simp
  | succ k ih =>
    cases l with
    | nil => simp
    | cons a r =>
      rw [List.take_succ_cons, List.flatMap_cons, List.length_append]
      have h1 := ih r (fun x hx => h x (List.mem_cons_of_mem _ hx))
      have h2 := h a (List.mem_cons_self ..)
      have h3 : (extT a).length = a.2.length + 1 := rfl
      omega
theorem take_next {α : Type} {l : List α} {k : Nat} {x : α} (h : l[k]? = some x) : l.take (k + 1) = l.take k ++ [x] := by
  rw [List.take_add_one, h]
  rfl

set_option maxRecDepth 100000 in
set_option maxHeartbeats 8000000 in
theorem subtags_ref (v : Value) (T : TagM) (w : World) (hT : TagIs w v T) (hF : TagFits T) :
    Calls Tryz.prog 20 #[v] w fun e w' => ∃ u, e = .returned u ∧ w'.ownsRow w.heap.size 9 1 u (subtagsT T).length (strs (subtagsT T)) ∧ Below w.heap.size w w' := by
  obtain ⟨i0, hi, hz0, hz1, hz2⟩ := info_parts stringInfo
  obtain ⟨ve, vv, vx, vp, rfl, R1, R2, R3, R4⟩ := hT
  obtain ⟨F1, F2, F3, F4, F5, F6⟩ := hF
  obtain ⟨W0, hW0⟩ : ∃ W0, w.alloc (.cells #[.string T.lang, ve, .string T.script, .string T.region, vv, vx, vp, .string T.grand] 31) = W0 := ⟨_, rfl⟩
  have hb0 : Below w.heap.size w W0 := by rw [← hW0]; exact (Below.refl _ w).alloc (Nat.le_refl _) _
  have hz0' : w.heap.size < W0.heap.size := by rw [← hW0]; simp
  have hh0 : W0.heap[w.heap.size]? = some (.cells #[.string T.lang, ve, .string T.script, .string T.region, vv, vx, vp, .string T.grand] 31 (0, 0)) := by rw [← hW0]; exact World.alloc_heap_new w _
  have R1 := R1.below hb0
  have R2 := R2.below hb0
  have R3 := R3.below hb0
  have R4 := R4.below hb0
  obtain ⟨c0, c1, c2, c3, c4, c5, c6, c7⟩ := tag_cells hh0
  by_cases hgr : T.grand.size = 0
  · have he := empty_true hgr
    obtain ⟨lang, extl, script, region, vars, exts, priv, grand⟩ := T
    dsimp only at *
    have hsub : subtagsT ⟨lang, extl, script, region, vars, exts, priv, grand⟩ = oneT lang ++ extl ++ oneT script ++ oneT region ++ vars ++ exts.flatMap extT ++ privT priv := by
      unfold subtagsT
      dsimp only
      rw [if_pos hgr]
    have HSUB := Lib.hid hsub
    have HH := Lib.hid (fun wr (hb : Below W0.heap.size W0 wr) => tag_cells ((hb.block _ hz0').trans hh0))
    have HB0 := Lib.hid hb0
    obtain ⟨a1, p1, rfl, K1⟩ := R1
    obtain ⟨a2, p2, rfl, K2⟩ := R2
    obtain ⟨a3, p3, rfl, K3⟩ := R3
    obtain ⟨a4, p4, rfl, K4⟩ := R4
    have K1 := Lib.hid K1
    have K2 := Lib.hid K2
    have K3 := Lib.hid K3
    have K4 := Lib.hid K4
    clear hsub hgr hh0 hb0 F6
    go_enter Tryz.func20, Tryz.ntmps20
    go_upto_if 17 with fail
    clear hW0
    go_cut [3] from 17 to 22 (fun u wx => Acc W0 (oneT lang) u wx)
    case first =>
      by_cases hl : lang.size = 0
      · have h1 : oneT lang = [] := by unfold oneT; rw [if_pos hl]
        rw [empty_true hl]
        go_wp2_with fail
        go_meet
        case rel =>
          rw [h1]
          exact Acc.start W0
      · have h1 : oneT lang = [lang] := by unfold oneT; rw [if_neg hl]
        rw [empty_false (s := lang) (by omega)]
        have HA := Acc.start W0
        have hsz := HA.2.size
        go_wp2_with (at_builtin; refine wpList_append_own _ rfl _ _ 28 rfl W0.heap.size 9 i0 (.string ByteArray.empty) 1 16 Tryz.underlying28 hi hz0 hz1 hz2 rfl (by decide) _ 0 _ rfl (HA.1.alloc _) ⟨_, 0, none⟩ 1 1 [.string lang] rfl rfl (cell_one_new _ _ _) (by intro u hu; simp at hu; subst hu; rfl) (by unfold maxLen; omega) (by omega) (by simp) ?_; intro v' w2 hown1 hgrow _)
        go_meet
        case rel =>
          rw [h1]
          exact HA.push hown1 hgrow
    case rest =>
      have hl1 := oneT_len lang
      obtain ⟨L1, hL1⟩ : ∃ L, oneT lang = L := ⟨_, rfl⟩
      rw [hL1] at hcut hl1
      have HL1 := Lib.hid hL1
      clear hL1
      go_wp2_with fail
      go_loopw [3, 4] (fun v i wr => ∃ k : Nat, k ≤ extl.length ∧ i = .int .i64 (k : Int) ∧ Acc W0 (L1 ++ extl.take k) v wr) (fun _ i _ => extl.length - (intOf i).toNat)
      case atStart => exact ⟨0, Nat.zero_le _, rfl, by simpa using hcut⟩
      case round =>
        obtain ⟨k, hk, rfl, HA⟩ := hrel
        have hsz := HA.2.size
        obtain ⟨d0, d1, d2, d3, d4, d5, d6, d7⟩ := HH.out wr HA.2
        by_cases hlt : k < extl.length
        · obtain ⟨x, hx⟩ : ∃ x, extl[k]? = some x := ⟨_, List.getElem?_eq_getElem hlt⟩
          obtain ⟨g, rfl, hc⟩ := K1.out k x hx
          have hcx := (HA.2.cell (p := ⟨g, k, none⟩) (lt_of_cellF hc)).trans hc
          have hki : (k : Int) < (extl.length : Int) := by omega
          have hk0 : (0 : Int) ≤ (k : Int) := by omega
          have hlen : (L1 ++ extl.take k).length ≤ 101 := by rw [List.length_append, List.length_take]; omega
          have HS := Lib.hid (show L1 ++ extl.take (k + 1) = (L1 ++ extl.take k) ++ [x] by rw [take_next hx, List.append_assoc])
          clear hx hc
          go_wp2_with (at_builtin; refine wpList_append_own _ rfl _ _ 28 rfl W0.heap.size 9 i0 (.string ByteArray.empty) 1 16 Tryz.underlying28 hi hz0 hz1 hz2 rfl (by decide) _ _ _ rfl (HA.1.alloc _) ⟨_, 0, none⟩ 1 1 [.string x] rfl rfl (cell_one_new _ _ _) (by intro u hu; simp at hu; subst hu; rfl) (by unfold maxLen; omega) (by omega) (by simp; omega) ?_; intro v' w2 hown1 hgrow _)
          go_roundw
          case rel => exact ⟨k + 1, by omega, by go_num, by rw [HS.out]; exact HA.push hown1 hgrow⟩
          case measure => simp [intOf]; omega
        obtain rfl : k = extl.length := by omega
        rw [List.take_of_length_le (Nat.le_refl _)] at HA
        have L2l : (L1 ++ extl).length ≤ 101 := by rw [List.length_append]; omega
        obtain ⟨L2, hL2⟩ : ∃ L, L1 ++ extl = L := ⟨_, rfl⟩
        rw [hL2] at HA L2l
        have HL2 := Lib.hid hL2
        clear hL2
        go_upto_if 40 with fail
        go_cut [3] from 40 to 45 (fun u wx => Acc W0 (L2 ++ oneT script) u wx)
        case first =>
          by_cases hl : script.size = 0
          · have h1 : L2 ++ oneT script = L2 := by unfold oneT; rw [if_pos hl, List.append_nil]
            rw [empty_true hl]
            go_wp2_with fail
            go_meet
            case rel =>
              rw [h1]
              exact HA
          · have h1 : L2 ++ oneT script = L2 ++ [script] := by unfold oneT; rw [if_neg hl]
            rw [empty_false (s := script) (by omega)]
            go_wp2_with (at_builtin; refine wpList_append_own _ rfl _ _ 28 rfl W0.heap.size 9 i0 (.string ByteArray.empty) 1 16 Tryz.underlying28 hi hz0 hz1 hz2 rfl (by decide) _ _ _ rfl (HA.1.alloc _) ⟨_, 0, none⟩ 1 1 [.string script] rfl rfl (cell_one_new _ _ _) (by intro u hu; simp at hu; subst hu; rfl) (by unfold maxLen; omega) (by omega) (by simp; omega) ?_; intro v' w2 hown1 hgrow _)
            go_meet
            case rel =>
              rw [h1]
              exact HA.push hown1 hgrow
        have L3l : (L2 ++ oneT script).length ≤ 102 := by rw [List.length_append]; have := oneT_len script; omega
        obtain ⟨L3, hL3⟩ : ∃ L, L2 ++ oneT script = L := ⟨_, rfl⟩
        rw [hL3] at hcut L3l
        have HL3 := Lib.hid hL3
        clear hL3
        have HA := hcut
        have hsz := HA.2.size
        obtain ⟨d0, d1, d2, d3, d4, d5, d6, d7⟩ := HH.out wc HA.2
        go_upto_if 48 with fail
        go_cut [3] from 48 to 53 (fun u wx => Acc W0 (L3 ++ oneT region) u wx)
        case first =>
          by_cases hl : region.size = 0
          · have h1 : L3 ++ oneT region = L3 := by unfold oneT; rw [if_pos hl, List.append_nil]
            rw [empty_true hl]
            go_wp2_with fail
            go_meet
            case rel =>
              rw [h1]
              exact HA
          · have h1 : L3 ++ oneT region = L3 ++ [region] := by unfold oneT; rw [if_neg hl]
            rw [empty_false (s := region) (by omega)]
            go_wp2_with (at_builtin; refine wpList_append_own _ rfl _ _ 28 rfl W0.heap.size 9 i0 (.string ByteArray.empty) 1 16 Tryz.underlying28 hi hz0 hz1 hz2 rfl (by decide) _ _ _ rfl (HA.1.alloc _) ⟨_, 0, none⟩ 1 1 [.string region] rfl rfl (cell_one_new _ _ _) (by intro u hu; simp at hu; subst hu; rfl) (by unfold maxLen; omega) (by omega) (by simp; omega) ?_; intro v' w2 hown1 hgrow _)
            go_meet
            case rel =>
              rw [h1]
              exact HA.push hown1 hgrow
        have L4l : (L3 ++ oneT region).length ≤ 103 := by rw [List.length_append]; have := oneT_len region; omega
        obtain ⟨L4, hL4⟩ : ∃ L, L3 ++ oneT region = L := ⟨_, rfl⟩
        rw [hL4] at hcut L4l
        have HL4 := Lib.hid hL4
        clear hL4
        go_wp2_with fail
        go_loopw [3, 5] (fun v i wr => ∃ k : Nat, k ≤ vars.length ∧ i = .int .i64 (k : Int) ∧ Acc W0 (L4 ++ vars.take k) v wr) (fun _ i _ => vars.length - (intOf i).toNat)
        case atStart => exact ⟨0, Nat.zero_le _, rfl, by simpa using hcut⟩
        case round =>
          obtain ⟨k, hk, rfl, HA⟩ := hrel
          have hsz := HA.2.size
          obtain ⟨d0, d1, d2, d3, d4, d5, d6, d7⟩ := HH.out wr HA.2
          by_cases hlt : k < vars.length
          · obtain ⟨x, hx⟩ : ∃ x, vars[k]? = some x := ⟨_, List.getElem?_eq_getElem hlt⟩
            obtain ⟨g, rfl, hc⟩ := K2.out k x hx
            have hcx := (HA.2.cell (p := ⟨g, k, none⟩) (lt_of_cellF hc)).trans hc
            have hki : (k : Int) < (vars.length : Int) := by omega
            have hk0 : (0 : Int) ≤ (k : Int) := by omega
            have hlen : (L4 ++ vars.take k).length ≤ 203 := by rw [List.length_append, List.length_take]; omega
            have HS := Lib.hid (show L4 ++ vars.take (k + 1) = (L4 ++ vars.take k) ++ [x] by rw [take_next hx, List.append_assoc])
            clear hx hc
            go_wp2_with (at_builtin; refine wpList_append_own _ rfl _ _ 28 rfl W0.heap.size 9 i0 (.string ByteArray.empty) 1 16 Tryz.underlying28 hi hz0 hz1 hz2 rfl (by decide) _ _ _ rfl (HA.1.alloc _) ⟨_, 0, none⟩ 1 1 [.string x] rfl rfl (cell_one_new _ _ _) (by intro u hu; simp at hu; subst hu; rfl) (by unfold maxLen; omega) (by omega) (by simp; omega) ?_; intro v' w2 hown1 hgrow _)
            go_roundw
            case rel => exact ⟨k + 1, by omega, by go_num, by rw [HS.out]; exact HA.push hown1 hgrow⟩
            case measure => simp [intOf]; omega
          obtain rfl : k = vars.length := by omega
          rw [List.take_of_length_le (Nat.le_refl _)] at HA
          have L5l : (L4 ++ vars).length ≤ 203 := by rw [List.length_append]; omega
          obtain ⟨L5, hL5⟩ : ∃ L, L4 ++ vars = L := ⟨_, rfl⟩
          rw [hL5] at HA L5l
          have HL5 := Lib.hid hL5
          clear hL5
          have hcut := HA
          go_wp2_with fail
          go_loopw [3, 6] (fun v i wr => ∃ k : Nat, k ≤ exts.length ∧ i = .int .i64 (k : Int) ∧ Acc W0 (L5 ++ (exts.take k).flatMap extT) v wr) (fun _ i _ => exts.length - (intOf i).toNat)
          case atStart => exact ⟨0, Nat.zero_le _, rfl, by simpa using hcut⟩
          case round =>
            obtain ⟨k, hk, rfl, HA⟩ := hrel
            have hsz := HA.2.size
            obtain ⟨d0, d1, d2, d3, d4, d5, d6, d7⟩ := HH.out wr HA.2
            have hfl := flat_len exts F4 k
            have hfl2 : 101 * k ≤ 10100 := by omega
            by_cases hlt : k < exts.length
            · obtain ⟨x, hx⟩ : ∃ x, exts[k]? = some x := ⟨_, List.getElem?_eq_getElem hlt⟩
              obtain ⟨g, vs, rfl, hc, hc2, ⟨ao5, ps, rfl, KS⟩⟩ := K3.out k x hx
              have KS := Lib.hid KS
              have hgl := lt_of_cellF hc
              have hcx := (HA.2.cell (p := ⟨g, k * 2, none⟩) hgl).trans hc
              have hki : (k : Int) < (exts.length : Int) := by omega
              have hk0 : (0 : Int) ≤ (k : Int) := by omega
              have hki2 : (k : Int) ≤ 100 := by omega
              have hlen : (L5 ++ (exts.take k).flatMap extT).length ≤ 10303 := by rw [List.length_append]; omega
              have hx2 : x.2.length ≤ 100 := F4 x (List.mem_of_getElem? hx)
              have HS := Lib.hid (show L5 ++ (exts.take (k + 1)).flatMap extT = ((L5 ++ (exts.take k).flatMap extT) ++ [x.1]) ++ x.2 by rw [take_next hx, List.flatMap_append, List.append_assoc, List.append_assoc]; simp [extT])
              obtain ⟨Lk, hLk⟩ : ∃ L, L5 ++ (exts.take k).flatMap extT = L := ⟨_, rfl⟩
              rw [hLk] at HA hlen HS
              clear hx hfl hLk
              obtain ⟨key, subs⟩ := x
              dsimp only at *
              go_wp2_with (at_builtin; refine wpList_append_own _ rfl _ _ 28 rfl W0.heap.size 9 i0 (.string ByteArray.empty) 1 16 Tryz.underlying28 hi hz0 hz1 hz2 rfl (by decide) _ _ _ rfl (HA.1.alloc _) ⟨_, 0, none⟩ 1 1 [.string key] rfl rfl (cell_one_new _ _ _) (by intro u hu; simp at hu; subst hu; rfl) (by unfold maxLen; omega) (by omega) (by simp; omega) ?_; intro v' w2 hown1 hgrow _)
              have HA2 := HA.push hown1 hgrow
              clear HA hown1 hgrow
              go_loopw [3, 7] (fun v i wr2 => ∃ j : Nat, j ≤ subs.length ∧ i = .int .i64 (j : Int) ∧ Acc W0 ((Lk ++ [key]) ++ subs.take j) v wr2) (fun _ i _ => subs.length - (intOf i).toNat)
              case atStart => exact ⟨0, Nat.zero_le _, rfl, by simpa using HA2⟩
              case round =>
                obtain ⟨j, hj, rfl, HA⟩ := hrel
                have hsz := HA.2.size
                obtain ⟨d0, d1, d2, d3, d4, d5, d6, d7⟩ := HH.out _ HA.2
                have hcx := (HA.2.cell (p := ⟨g, k * 2, none⟩) hgl).trans hc
                have hcy := (HA.2.cell (p := ⟨g, k * 2 + 1, none⟩) hgl).trans hc2
                by_cases hlt2 : j < subs.length
                · obtain ⟨y, hy⟩ : ∃ y, subs[j]? = some y := ⟨_, List.getElem?_eq_getElem hlt2⟩
                  obtain ⟨g2, rfl, hc3⟩ := KS.out j y hy
                  have hcz := (HA.2.cell (p := ⟨g2, j, none⟩) (lt_of_cellF hc3)).trans hc3
                  have hji : (j : Int) < (subs.length : Int) := by omega
                  have hj0 : (0 : Int) ≤ (j : Int) := by omega
                  have hlen2 : ((Lk ++ [key]) ++ subs.take j).length ≤ 10404 := by rw [List.length_append, List.length_append, List.length_take, List.length_singleton]; omega
                  have HS2 := Lib.hid (show (Lk ++ [key]) ++ subs.take (j + 1) = ((Lk ++ [key]) ++ subs.take j) ++ [y] by rw [take_next hy]; simp)
                  clear hy hc3
                  go_wp2_with (at_builtin; refine wpList_append_own _ rfl _ _ 28 rfl W0.heap.size 9 i0 (.string ByteArray.empty) 1 16 Tryz.underlying28 hi hz0 hz1 hz2 rfl (by decide) _ _ _ rfl (HA.1.alloc _) ⟨_, 0, none⟩ 1 1 [.string y] rfl rfl (cell_one_new _ _ _) (by intro u hu; simp at hu; subst hu; rfl) (by unfold maxLen; omega) (by omega) (by simp; omega) ?_; intro v' w2 hown1 hgrow _)
                  go_roundw
                  case rel => exact ⟨j + 1, by omega, by go_num, by rw [HS2.out]; exact HA.push hown1 hgrow⟩
                  case measure => simp [intOf]; omega
                obtain rfl : j = subs.length := by omega
                rw [List.take_of_length_le (Nat.le_refl _), ← HS.out] at HA
                go_wp2_with fail
                go_roundw
                case rel => exact ⟨k + 1, by omega, by go_num, HA⟩
                case measure => simp [intOf]; omega
            obtain rfl : k = exts.length := by omega
            rw [List.take_of_length_le (Nat.le_refl _)] at HA hfl
            have L6l : (L5 ++ exts.flatMap extT).length ≤ 10303 := by rw [List.length_append]; omega
            obtain ⟨L6, hL6⟩ : ∃ L, L5 ++ exts.flatMap extT = L := ⟨_, rfl⟩
            rw [hL6] at HA L6l
            have HL6 := Lib.hid hL6
            clear hL6 hfl
            go_upto_if 111 with fail
            go_cut [3] from 111 to 114 (fun u wx => Acc W0 (L6 ++ preT priv) u wx)
            case first =>
              by_cases hp : priv.length = 0
              · have h1 : L6 ++ preT priv = L6 := by unfold preT; rw [if_pos hp, List.append_nil]
                have h2 : decide ((0 : Int) < (priv.length : Int)) = false := by rw [decide_eq_false_iff_not]; omega
                have h3 : decide (0 < priv.length) = false := by rw [decide_eq_false_iff_not]; omega
                first | rw [h3] | rw [h2]
                go_wp2_with fail
                go_meet
                case rel =>
                  rw [h1]
                  exact HA
              · have h1 : L6 ++ preT priv = L6 ++ [⟨#[120]⟩] := by unfold preT; rw [if_neg hp]
                have h2 : decide ((0 : Int) < (priv.length : Int)) = true := by rw [decide_eq_true_iff]; omega
                have h3 : decide (0 < priv.length) = true := by rw [decide_eq_true_iff]; omega
                first | rw [h3] | rw [h2]
                go_wp2_with (at_builtin; refine wpList_append_own _ rfl _ _ 28 rfl W0.heap.size 9 i0 (.string ByteArray.empty) 1 16 Tryz.underlying28 hi hz0 hz1 hz2 rfl (by decide) _ _ _ rfl (HA.1.alloc _) ⟨_, 0, none⟩ 1 1 [.string ⟨#[120]⟩] rfl rfl (cell_one_new _ _ _) (by intro u hu; simp at hu; subst hu; rfl) (by unfold maxLen; omega) (by omega) (by simp; omega) ?_; intro v' w2 hown1 hgrow _)
                go_meet
                case rel =>
                  rw [h1]
                  exact HA.push hown1 hgrow
            have L7l : (L6 ++ preT priv).length ≤ 10304 := by
              have h : (preT priv).length ≤ 1 := by unfold preT; split <;> simp
              rw [List.length_append]; omega
            obtain ⟨L7, hL7⟩ : ∃ L, L6 ++ preT priv = L := ⟨_, rfl⟩
            rw [hL7] at hcut L7l
            have HL7 := Lib.hid hL7
            clear hL7
            go_wp2_with fail
            go_loopw [3, 8] (fun v i wr => ∃ k : Nat, k ≤ priv.length ∧ i = .int .i64 (k : Int) ∧ Acc W0 (L7 ++ priv.take k) v wr) (fun _ i _ => priv.length - (intOf i).toNat)
            case atStart => exact ⟨0, Nat.zero_le _, rfl, by simpa using hcut⟩
            case round =>
              obtain ⟨k, hk, rfl, HA⟩ := hrel
              have hsz := HA.2.size
              obtain ⟨d0, d1, d2, d3, d4, d5, d6, d7⟩ := HH.out wr HA.2
              by_cases hlt : k < priv.length
              · obtain ⟨x, hx⟩ : ∃ x, priv[k]? = some x := ⟨_, List.getElem?_eq_getElem hlt⟩
                obtain ⟨g, rfl, hc⟩ := K4.out k x hx
                have hcx := (HA.2.cell (p := ⟨g, k, none⟩) (lt_of_cellF hc)).trans hc
                have hki : (k : Int) < (priv.length : Int) := by omega
                have hk0 : (0 : Int) ≤ (k : Int) := by omega
                have hlen : (L7 ++ priv.take k).length ≤ 10404 := by rw [List.length_append, List.length_take]; omega
                have HS := Lib.hid (show L7 ++ priv.take (k + 1) = (L7 ++ priv.take k) ++ [x] by rw [take_next hx, List.append_assoc])
                clear hx hc
                go_wp2_with (at_builtin; refine wpList_append_own _ rfl _ _ 28 rfl W0.heap.size 9 i0 (.string ByteArray.empty) 1 16 Tryz.underlying28 hi hz0 hz1 hz2 rfl (by decide) _ _ _ rfl (HA.1.alloc _) ⟨_, 0, none⟩ 1 1 [.string x] rfl rfl (cell_one_new _ _ _) (by intro u hu; simp at hu; subst hu; rfl) (by unfold maxLen; omega) (by omega) (by simp; omega) ?_; intro v' w2 hown1 hgrow _)
                go_roundw
                case rel => exact ⟨k + 1, by omega, by go_num, by rw [HS.out]; exact HA.push hown1 hgrow⟩
                case measure => simp [intOf]; omega
              obtain rfl : k = priv.length := by omega
              rw [List.take_of_length_le (Nat.le_refl _)] at HA
              have HFIN := Lib.hid (show subtagsT ⟨lang, extl, script, region, vars, exts, priv, grand⟩ = L7 ++ priv by
                rw [HSUB.out, HL1.out, HL2.out, HL3.out, HL4.out, HL5.out, HL6.out, ← HL7.out, privT_pre, List.append_assoc])
              go_wp2_with fail
              go_ret
              refine ⟨_, rfl, ?_, HB0.out.trans (HA.2.mono (Nat.le_of_lt hz0'))⟩
              rw [HFIN.out]
              exact own_lower HA.1 (Nat.le_of_lt hz0')
  · have hge := empty_false (s := T.grand) (by omega)
    have SP := Lib.hid ((split_ref T.grand W0 (by omega)).mono (R' := fun e w' => ∃ u, e = .returned u ∧ w'.ownsRow w.heap.size 9 1 u (subtagsT T).length (strs (subtagsT T)) ∧ Below w.heap.size w w') fun e w' ⟨u, p, q, r⟩ => ⟨u, p, by
      have hs : subtagsT T = splS T.grand := by unfold subtagsT; rw [if_neg hgr]
      rw [hs]
      exact own_lower q (Nat.le_of_lt hz0'), hb0.trans (r.mono (Nat.le_of_lt hz0'))⟩)
    clear F1 F2 F3 F4 F5 F6 R1 R2 R3 R4 hh0 hgr c0 c1 c2 c3 c4 c5 c6 hb0 hz0'
    generalize T.grand = gr at *
    go_enter Tryz.func20, Tryz.ntmps20
    go_wp2_with (go_at_call 41; (with_reducible refine SP.out.mono ?_); rintro e w' ⟨u, rfl, ho, hb⟩)
    go_ret
    exact ⟨_, rfl, ho, hb⟩
end Go.Proofs.YtpnhjpplfjamkaaGreatDoor
