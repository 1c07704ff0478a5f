/-
  SplitJoins: it returns true.
-/
import Derived.Test.YtjajlfcmmgdfcaaDoorDJoin
import Derived.Test.YtjajlfcmmgdfcaaDoorDRowKit
import Derived.Laws.OwnMore
namespace Go.Proofs.YtjajlfcmmgdfcaaDoor
open Go Go.RowKit

/-- A text's first eight bytes without marks. -/
def bareL (t : List UInt8) : List UInt8 := (t.take 8).filter (· != 45)
def bareT (s : ByteArray) : ByteArray := ofL (bareL (bs s))
/-- The texts that are joined. -/
def outP (l : List ByteArray) : List (List UInt8) := [] :: (l.take 8).map fun s => bareL (bs s)
def outT (l : List ByteArray) : List ByteArray := (outP l).map ofL
theorem bareL_mark (t : List UInt8) : (45 : UInt8) ∉ bareL t := by unfold bareL; simp
theorem bareL_len (t : List UInt8) : (bareL t).length ≤ 8 := by
  unfold bareL
  refine Nat.le_trans (List.length_filter_le _ _) ?_
  rw [List.length_take]; omega
theorem outP_mark (l : List ByteArray) : ∀ p ∈ outP l, (45 : UInt8) ∉ p := by
  intro p hp
  rcases List.mem_cons.1 hp with rfl | hp
  · simp
  · obtain ⟨s, _, rfl⟩ := List.mem_map.1 hp
    exact bareL_mark _
theorem outP_len (l : List ByteArray) : ∀ p ∈ outP l, p.length ≤ 8 := by
  intro p hp
  rcases List.mem_cons.1 hp with rfl | hp
  · simp
  · obtain ⟨s, _, rfl⟩ := List.mem_map.1 hp
    exact bareL_len _
theorem outT_length (l : List ByteArray) : (outT l).length = (l.take 8).length + 1 := by simp [outT, outP]
theorem split_out (l : List ByteArray) : splS (joinS (outT l)) = outT l := by
  unfold splS joinS
  rw [bs_ofL]
  unfold outT
  rw [map_bs_ofL, spl_joinP (by simp [outP]) (outP_mark l)]
theorem join_out_size (l : List ByteArray) : (joinS (outT l)).size ≤ 81 := by
  unfold joinS outT
  rw [size_ofL, map_bs_ofL]
  refine Nat.le_trans (joinP_len 8 _ (outP_len l)) ?_
  have : (outP l).length ≤ 9 := by simp [outP]; omega
  omega
/-- The row that is built, after k rounds. -/
def outK (l : List ByteArray) (k : Nat) : List ByteArray := ofL [] :: (l.take k).map bareT
theorem outK_length {l : List ByteArray} {k : Nat} (h : k ≤ l.length) : (outK l k).length = k + 1 := by unfold outK; rw [List.length_cons, List.length_map, List.length_take]; omega
theorem outK_succ {l : List ByteArray} {k : Nat} {p : ByteArray} (h : l[k]? = some p) : outK l (k + 1) = outK l k ++ [bareT p] := by
  obtain ⟨hk, he⟩ := List.getElem?_eq_some_iff.1 h
  unfold outK
  rw [List.take_succ_eq_append_getElem hk, he, List.map_append]; rfl
theorem outK_all (l : List ByteArray) {k : Nat} (h : l.take k = l.take 8) : outK l k = outT l := by
  unfold outK outT outP
  rw [h, List.map_cons, List.map_map]; rfl

/-- A row of texts that came in, place by place. -/
theorem textsIn_at {W : World} {v : Value} {l : List ByteArray} (h : TextsIn W v l) : ∃ ao cap, v = .slice ao l.length cap ∧ l.length ≤ maxLen ∧ ∀ i x, l[i]? = some x → ∃ b o, ao = some ⟨b, o, none⟩ ∧ W.cell? ⟨b, o + i, none⟩ = some (.string x) ∧ b < W.heap.size ∧ x.size ≤ maxLen := by
  rcases h with ⟨rfl, rfl⟩ | ⟨a, cap, rfl, h1, h2, h3⟩
  · exact ⟨none, 0, rfl, by simp, fun i x hx => by simp at hx⟩
  · refine ⟨some a, cap, rfl, by omega, fun i x hx => ?_⟩
    obtain ⟨q1, q2⟩ := h3 i x hx
    obtain ⟨b, o, spot⟩ := a
    obtain ⟨y, hy⟩ : ∃ y, l[0]? = some y := ⟨_, List.getElem?_eq_getElem (by have := (List.getElem?_eq_some_iff.1 hx).1; omega)⟩
    have hs : spot = none := by simpa [Addr.add] using World.cell?_spot (h3 0 y hy).1
    subst hs
    have q3 : W.cell? ⟨b, o + i, none⟩ = some (.string x) := by rwa [Go.WideShapes.add_plain] at q1
    exact ⟨b, o, rfl, q3, lt_of_cell q3, q2⟩

/-- What the rounds over one text keep. -/
def BaI (p : ByteArray) (wo : World) (m : Nat) (v : Value) (wi : World) : Prop :=
  wi.ownsRow wo.heap.size 5 1 v (((bs p).take m).filter (· != 45)).length (bcells (((bs p).take m).filter (· != 45))) ∧ Below wo.heap.size wo wi
theorem BaI.start {p : ByteArray} {wo : World} : BaI p wo 0 (.slice none 0 0) wo := ⟨by simpa [bcells] using World.ownsRow_nil wo wo.heap.size 5 1, Below.refl _ _⟩
theorem BaI.skip {p : ByteArray} {wo wi : World} {m : Nat} {v : Value} (h : BaI p wo m v wi) (hm : m < p.size) (hc : p[m] = 45) : BaI p wo (m + 1) v wi := by
  unfold BaI at *
  have e : ((bs p).take (m + 1)).filter (· != 45) = ((bs p).take m).filter (· != 45) := by rw [bs_take_succ p m hm, List.filter_append, hc]; simp
  rw [e]; exact h
theorem BaI.put {p : ByteArray} {wo wi w1 : World} {m : Nat} {v v' : Value} {o : Obj} (h : BaI p wo m v wi) (hm : m < p.size) (hc : p[m] ≠ 45)
    (h1 : w1.ownsRow wo.heap.size 5 1 v' ((((bs p).take m).filter (· != 45)).length + 1) (bcells (((bs p).take m).filter (· != 45)) ++ [.int .u8 (p[m].toNat : Int)])) (hg : (wi.alloc o).grownBy w1 v.ownBlock) : BaI p wo (m + 1) v' w1 := by
  unfold BaI at *
  have e : ((bs p).take (m + 1)).filter (· != 45) = ((bs p).take m).filter (· != 45) ++ [p[m]] := by rw [bs_take_succ p m hm, List.filter_append]; simp [hc]
  rw [e, List.length_append, bcells_append]
  exact ⟨h1, (h.2.alloc h.2.size o).grown hg (by simp; have := h.2.size; omega) (fun r e => (h.1.lt r e).1)⟩
theorem BaI.len {p : ByteArray} {wo wi : World} {m : Nat} {v : Value} (_h : BaI p wo m v wi) : (((bs p).take m).filter (· != 45)).length ≤ m :=
  Nat.le_trans (List.length_filter_le _ _) (by rw [List.length_take]; omega)
theorem BaI.fin {p : ByteArray} {wo wi : World} {m : Nat} {v : Value} (h : BaI p wo m v wi) (hm : m = p.size ∨ m = 8) (h8 : m ≤ 8) : (convert 45 9 v).run Tryd.prog wi = .ok (.string (bareT p)) wi := by
  have e : (bs p).take m = (bs p).take 8 := by
    rcases hm with rfl | rfl
    · rw [List.take_of_length_le (by rw [size_bs]; exact Nat.le_refl _), List.take_of_length_le (by rw [size_bs]; exact h8)]
    · rfl
  have h1 := h.1
  rw [e] at h1
  exact conv_owned (B := wo.heap.size) _ h1

set_option maxRecDepth 100000 in
set_option maxHeartbeats 16000000 in
theorem joins_law (s : ByteArray) (v : Value) (l : List ByteArray) (w : World) (hs : s.size ≤ maxLen) (hl : TextsIn w v l) (hg : TypeLaid w) :
    Calls Tryd.prog 4 #[.string s, v] w fun e w' => e = .returned (.bool true) ∧ Below w.heap.size w w' := by
  obtain ⟨j0, ji, jz0, jz1, jz2⟩ := info_parts byteInfo
  obtain ⟨i0, hi, hz0, hz1, hz2⟩ := info_parts stringInfo
  obtain ⟨ao, cap, rfl, hlm, hat⟩ := textsIn_at hl
  obtain ⟨n, hn⟩ : ∃ n, l.length = n := ⟨_, rfl⟩
  rw [hn] at hlm ⊢
  unfold maxLen at hlm
  obtain ⟨x, hx⟩ : ∃ t, cut60 s = t := ⟨_, rfl⟩
  have hx60 : x.size ≤ 60 := by rw [← hx]; exact size_cut60 s
  have SA := told (onwardS w fun w5 => short60_any s w5 hs) (ret_string hx)
  have A1 := awake4_on w hg
  have hB0 : Below w.heap.size w w := Below.refl _ _
  have HAT := Lib.hid hat
  have HN := Lib.hid hn
  clear hx hs hl hg hat hn
  go_enter Tryd.func4, Tryd.ntmps4
  go_wp2_with (first
    | (go_at_call 9; ((with_reducible refine (A1.out _ (by assumption)).mono ?_); rintro e w5 ⟨rfl, hb5⟩))
    | (go_at_call 10; ((with_reducible refine (SA.out _ (by assumption)).mono ?_); rintro e w6 ⟨rfl, hb6⟩)))
  have o0 := World.ownsRow_lit (base := w.heap.size) (e := 9) (size := 1) w6 #[.string ⟨#[]⟩] 1 hb6.size (by unfold maxLen; omega) rfl
  have hb7 : Below w.heap.size w (w6.alloc (.cells #[.string ⟨#[]⟩] 9)) := hb6.alloc hb6.size _
  have O0 := Lib.hid o0
  have HB7 := Lib.hid hb7
  clear o0 hb7 hb5 hb6
  go_loopw [6, 7] (fun o i wr => ∃ k : Nat, k ≤ n ∧ k ≤ 8 ∧ i = .int .i64 k ∧ wr.ownsRow w.heap.size 9 1 o (k + 1) (strs (outK l k)) ∧ Below w.heap.size w wr) (fun _ i _ => 9 - (intOf i).toNat)
  case atStart => exact ⟨0, Nat.zero_le _, Nat.zero_le _, rfl, O0.out, HB7.out⟩
  case round =>
    obtain ⟨k, hkn, hk8, rfl, hown, hB⟩ := hrel
    obtain ⟨g, gc, rfl⟩ := ownsRow_succ hown
    have HO := Lib.hid hown
    obtain ⟨wo, rfl⟩ : ∃ wo : World, wo = wr := ⟨_, rfl⟩
    have hfin : (k < n ∧ k < 8) ∨ (k = n ∨ k = 8) := by omega
    clear hown
    rcases hfin with ⟨hk1, hk2⟩ | hend
    · have hkl : k < l.length := by rw [HN.out]; exact hk1
      obtain ⟨b, o, rfl, hc, hbw, hps⟩ := HAT.out k _ (List.getElem?_eq_getElem hkl)
      have HS := Lib.hid (outK_succ (List.getElem?_eq_getElem hkl))
      obtain ⟨p, hp⟩ : ∃ p, l[k] = p := ⟨_, rfl⟩
      rw [hp] at hc hps HS
      unfold maxLen at hps
      have hco : wo.cell? ⟨b, o + k, none⟩ = some (.string p) := (hB.cell (p := ⟨b, o + k, none⟩) hbw).trans hc
      have HCO := Lib.hid hco
      have hbo : b < wo.heap.size := lt_of_cell hco
      have hki : (k : Int) < (n : Int) := by omega
      have hk8i : (k : Int) < 8 := by omega
      have hk0 : (0 : Int) ≤ (k : Int) := by omega
      clear hp hc hkl hco
      go_wp2
      go_loopw [8, 9] (fun bv kv wi => ∃ m : Nat, m ≤ p.size ∧ m ≤ 8 ∧ kv = .int .i64 m ∧ BaI p wo m bv wi) (fun _ kv _ => 8 - (intOf kv).toNat)
      case atStart => exact ⟨0, Nat.zero_le _, Nat.zero_le _, rfl, BaI.start⟩
      case round =>
        obtain ⟨m, hmp, hm8, rfl, HR⟩ := hrel
        have hsz : wo.heap.size ≤ wr.heap.size := HR.2.size
        have hcr : wr.cell? ⟨b, o + k, none⟩ = some (.string p) := (HR.2.cell (p := ⟨b, o + k, none⟩) hbo).trans HCO.out
        have hfin2 : (m < p.size ∧ m < 8) ∨ (m = p.size ∨ m = 8) := by omega
        rcases hfin2 with ⟨hm1, hm2⟩ | hend2
        · have hm1i : (m : Int) < (p.size : Int) := by omega
          have hm2i : (m : Int) < 8 := by omega
          have hm0 : (0 : Int) ≤ (m : Int) := by omega
          have hlen := HR.len
          by_cases hc : p[m] = 45
          · have e1 := (mark_true hc).2
            have HS2 := Lib.hid (HR.skip hm1 hc)
            clear hc hlen
            go_wp2
            go_roundw
            case rel => exact ⟨m + 1, by omega, by omega, by go_num, HS2.out⟩
            case measure => simp [intOf]; omega
          · have e1 := (mark_false hc).2
            have HC := Lib.hid hc
            clear hc
            go_wp2_with (at_builtin; refine wpList_append_own _ rfl _ _ 45 rfl wo.heap.size 5 j0 (.int .u8 0) 1 1 Tryd.underlying45 ji jz0 jz1 jz2 rfl (by decide) _ _ _ rfl (HR.1.alloc _) ⟨wr.heap.size, 0, none⟩ 1 1 [.int .u8 (p[m].toNat : Int)] rfl rfl (cell_one_new _ _ _) (by intro u hu; simp at hu; subst hu; rfl) (by unfold maxLen; omega) (by omega) (by simp; omega) ?_; intro v' w1 hown1 hgrow _)
            go_roundw
            case rel => exact ⟨m + 1, by omega, by omega, by go_num, HR.put hm1 HC.out hown1 hgrow⟩
            case measure => simp [intOf]; omega
        · have hcv := HR.fin hend2 hm8
          have O2 := Lib.hid (own_below HO.out HR.2)
          have HB2 := Lib.hid (hB.trans (HR.2.mono hB.size))
          have hwr : w.heap.size ≤ wr.heap.size := HB2.out.size
          have hwr2 : ((m : Int) < (p.size : Int) ∧ ¬ (m : Int) < 8) ∨ ¬ (m : Int) < (p.size : Int) := by omega
          clear HR hend2
          rcases hwr2 with ⟨q1, q2⟩ | q1
          all_goals
            go_wp2_with (at_builtin; refine wpList_append_own _ rfl _ _ 32 rfl w.heap.size 9 i0 (.string ByteArray.empty) 1 16 Tryd.underlying32 hi hz0 hz1 hz2 rfl (by decide) _ (k + 1) _ rfl (O2.out.alloc _) ⟨wr.heap.size, 0, none⟩ 1 1 [.string (bareT p)] rfl rfl (cell_one_new _ _ _) (by intro u hu; simp at hu; subst hu; rfl) (by unfold maxLen; omega) (by omega) (by simp; omega) ?_; intro v' w1 hown1 hgrow _)
            go_roundw
            case rel => exact ⟨k + 1, by omega, by omega, by go_num, by rw [HS.out, strs_append]; exact hown1, (HB2.out.alloc HB2.out.size _).grown hgrow (by simp; omega) (fun r e => (O2.out.lt r e).1)⟩
            case measure => simp [intOf]; omega
    · have hout : outK l k = outT l := outK_all l (by
        rcases hend with rfl | rfl
        · rw [List.take_of_length_le (by rw [HN.out]; exact Nat.le_refl _), List.take_of_length_le (by rw [HN.out]; exact hk8)]
        · rfl)
      have HOT := Lib.hid hout
      have hlen : (outT l).length = k + 1 := by rw [← hout, outK_length (by rw [HN.out]; exact hkn)]
      have HL := Lib.hid hlen
      have ho := HO.out
      rw [hout] at ho
      have hcells := own_cell ho
      have hgw : g < wo.heap.size := (ho.lt g rfl).2
      have hgc : k + 1 ≤ gc := own_cap ho
      have J1 := Lib.hid (join_row (n := k + 1) wo hlen hgc (by omega) hgw hcells (Nat.le_trans (join_out_size l) (by omega)))
      have SJ := Lib.hid (fun w5 => split_any (joinS (outT l)) w5 (Nat.le_trans (join_out_size l) (by omega)))
      have HOW := Lib.hid ho
      have S1 := Lib.hid (fun w5 => split_any x w5 (by omega))
      obtain ⟨nx, hnx⟩ : ∃ m, (splS x).length = m + 1 := ⟨(splS x).length - 1, by have := splS_pos x; omega⟩
      have HNX := Lib.hid hnx
      have hnx60 : nx ≤ 60 := by have := splS_le x; omega
      have hq : ((k : Int) < (n : Int) ∧ ¬ (k : Int) < 8) ∨ ¬ (k : Int) < (n : Int) := by omega
      clear hout hlen ho hcells hgc hend hnx
      rcases hq with ⟨q1, q2⟩ | q1
      all_goals
        go_wp2_with fail
        refine J1.out.mono ?_
        rintro e w10 ⟨rfl, hb10⟩
        go_wp2_with fail
        refine (SJ.out _).mono ?_
        rintro e w11 ⟨u1, rfl, ho1, hb11⟩
        rw [split_out, HL.out] at ho1
        obtain ⟨g1, c1, rfl⟩ := ownsRow_succ ho1
        have O6 := own_below HOW.out (hb10.trans (hb11.mono hb10.size))
        have SM := Lib.hid ((same_texts g1 g c1 gc (k + 1) (k + 1) (outT l) (outT l) w11 HL.out HL.out (by omega) (own_cell ho1) (own_cell O6)).mono
          (R' := fun e w' => e = .returned (.bool true) ∧ Below w11.heap.size w11 w') fun e w' ⟨p, q⟩ => ⟨by rw [p]; simp, q⟩)
        have HB11 := Lib.hid (hB.trans ((hb10.trans (hb11.mono hb10.size)).mono hB.size))
        clear ho1 O6 hb10 hb11
        go_wp2_with fail
        refine SM.out.mono ?_
        rintro e w12 ⟨rfl, hb12⟩
        go_wp2_with fail
        refine (S1.out _).mono ?_
        rintro e w13 ⟨u2, rfl, ho2, hb13⟩
        rw [HNX.out] at ho2
        obtain ⟨g2, c2, rfl⟩ := ownsRow_succ ho2
        have hg2 : nx + 1 ≤ c2 := own_cap ho2
        have J2 := Lib.hid (join_row (n := nx + 1) w13 HNX.out hg2 (by omega) (ho2.lt g2 rfl).2 (own_cell ho2) (by rw [join_split]; omega))
        rw [join_split] at J2
        have HB13 := Lib.hid (HB11.out.trans ((hb12.trans (hb13.mono hb12.size)).mono HB11.out.size))
        clear ho2 hg2 hb12 hb13
        go_wp2_with fail
        refine J2.out.mono ?_
        rintro e w14 ⟨rfl, hb14⟩
        go_wp2_with fail
        refine (join_none w14).mono ?_
        rintro e w15 ⟨rfl, rfl⟩
        go_wp2_with fail
        have HB14 := Lib.hid (HB13.out.trans (hb14.mono HB13.out.size))
        refine (join_row (l := [x]) (g := w14.heap.size) (n := 1) (cap := 1) _ rfl (by decide) (by decide) (by simp) (one_cells w14 x) (by rw [join_single]; omega)).mono ?_
        rintro e w16 ⟨he, hb16⟩
        rw [join_single] at he
        subst he
        have HB16 := Lib.hid ((HB14.out.alloc HB14.out.size _).trans (hb16.mono (by simp; have := HB14.out.size; omega)))
        clear hb14 hb16
        go_wp2
        go_ret
        exact ⟨rfl, HB16.out⟩
end Go.Proofs.YtjajlfcmmgdfcaaDoor
