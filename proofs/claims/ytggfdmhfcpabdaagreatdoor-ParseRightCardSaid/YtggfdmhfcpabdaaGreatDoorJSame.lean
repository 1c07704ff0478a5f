/-
  The project's Same: rows of texts, extensions, tags.
-/
import Derived.Test.YtggfdmhfcpabdaaGreatDoorFSame
import Derived.Deep.RegionHeld3
namespace Go.Proofs.YtggfdmhfcpabdaaGreatDoor
open Go Go.RowKit

theorem lt_of_heapJ {w : World} {k : Nat} {o : Obj} (h : w.heap[k]? = some o) : k < w.heap.size := (Array.getElem?_eq_some_iff.1 h).1
set_option maxRecDepth 100000 in
theorem sameText_own (a b : ByteArray) (w : World) :
    Calls Tryz.prog 179 #[.string a, .string b] w fun e w' => e = .returned (.bool (decide (a = b))) ∧ w = w' := by
  by_cases h : a = b
  · subst h
    have hbb : (a.toList == a.toList) = true := beq_self_eq_true _
    have HE := Lib.hid (show decide (a = a) = true by simp)
    go_enter Tryz.func179, Tryz.ntmps179
    go_wp2
    go_ret
    exact ⟨ret_bool HE.out.symm, rfl⟩
  · have hbb : (a.toList == b.toList) = false := toList_ne h
    have HE := Lib.hid (show decide (a = b) = false by simp [h])
    clear h
    go_enter Tryz.func179, Tryz.ntmps179
    go_wp2
    go_ret
    exact ⟨ret_bool HE.out.symm, rfl⟩

theorem row_len_ne {l1 l2 : List ByteArray} (h : l1.length ≠ l2.length) : decide (l1 = l2) = false := decide_eq_false fun e => h (by rw [e])
set_option maxRecDepth 100000 in
set_option maxHeartbeats 2000000 in
theorem sameRow_own (v1 v2 : Value) (l1 l2 : List ByteArray) (w : World) (h1 : Row w v1 l1) (h2 : Row w v2 l2) (hb : l1.length ≤ 1048576) :
    Calls Tryz.prog 178 #[v1, v2, .func (.func 179) #[] #[]] w fun e w' => e = .returned (.bool (decide (l1 = l2))) ∧ Below w.heap.size w w' := by
  obtain ⟨a1, p1, rfl, K1⟩ := h1
  obtain ⟨a2, p2, rfl, K2⟩ := h2
  have K1 := Lib.hid K1
  have K2 := Lib.hid K2
  by_cases hlen : l1.length = l2.length
  · have hle : ((l1.length : Int) != (l2.length : Int)) = false := by rw [hlen]; simp
    have HLN := Lib.hid hlen
    clear hlen
    go_enter Tryz.func178, Tryz.ntmps178
    go_wp2_with fail
    go_loopw [15] (fun i wr => ∃ k : Nat, k ≤ l1.length ∧ i = .int .i64 (k : Int) ∧ l1.take k = l2.take k ∧ Below w.heap.size w wr) (fun i _ => l1.length - (intOf i).toNat)
    case atStart => exact ⟨0, Nat.zero_le _, rfl, rfl, Below.refl _ _⟩
    case round =>
      obtain ⟨k, hk, rfl, HT, hB⟩ := hrel
      by_cases hlt : k < l1.length
      · have hki : (k : Int) < (l1.length : Int) := by omega
        have hk0 : (0 : Int) ≤ (k : Int) := by omega
        have hk2 : (k : Int) < (l2.length : Int) := by have := HLN.out; omega
        obtain ⟨x, hx⟩ : ∃ x, l1[k]? = some x := ⟨_, List.getElem?_eq_getElem hlt⟩
        obtain ⟨y, hy⟩ : ∃ y, l2[k]? = some y := ⟨_, List.getElem?_eq_getElem (by omega)⟩
        obtain ⟨g1, rfl, c1⟩ := K1.out k x hx
        obtain ⟨g2, rfl, c2⟩ := K2.out k y hy
        have HX := Lib.hid (fun (w' : World) (hb : Below w.heap.size w w') => show w'.cell? ⟨g1, k, none⟩ = some (.string x) ∧ w'.cell? ⟨g2, k, none⟩ = some (.string y) from ⟨(hb.cell (p := ⟨g1, k, none⟩) (lt_of_cellF c1)).trans c1, (hb.cell (p := ⟨g2, k, none⟩) (lt_of_cellF c2)).trans c2⟩)
        have hBd : Below w.heap.size w wr.drew := Below.drew hB
        obtain ⟨q1, q2⟩ := HX.out _ hBd
        have ST := Lib.hid (fun w5 => sameText_own x y w5)
        have HTL := Lib.hid HT
        have HXY := Lib.hid (And.intro hx hy)
        clear HT hx hy c1 c2
        by_cases hxy : x = y
        · have HXE := Lib.hid hxy
          rw [decide_eq_true hxy] at ST
          clear hxy
          go_upto_region 6 with fail
          go_region_held3 (fun w' => Below w.heap.size w w' ∧ w'.cell? ⟨g1, k, none⟩ = some (.string x) ∧ w'.cell? ⟨g2, k, none⟩ = some (.string y))
            (first | exact ⟨by assumption, by assumption, by assumption⟩)
            (first | (go_at_call 179; (with_reducible refine (ST.out _).mono ?_); rintro e w5 ⟨rfl, rfl⟩))
          go_wp2_with fail
          go_roundw
          case rel =>
            have hx := HXY.out.1
            have hy := HXY.out.2
            rw [← HXE.out] at hy
            exact ⟨k + 1, by omega, by go_num, take_eq_next HTL.out hx hy, hBd⟩
          case measure => simp [intOf]; omega
        · have HXE := Lib.hid hxy
          rw [decide_eq_false hxy] at ST
          clear hxy
          go_upto_region 6 with fail
          go_region_held3 (fun w' => Below w.heap.size w w' ∧ w'.cell? ⟨g1, k, none⟩ = some (.string x) ∧ w'.cell? ⟨g2, k, none⟩ = some (.string y))
            (first | exact ⟨by assumption, by assumption, by assumption⟩)
            (first | (go_at_call 179; (with_reducible refine (ST.out _).mono ?_); rintro e w5 ⟨rfl, rfl⟩))
          go_wp2_with fail
          go_ret
          exact ⟨ret_bool (decide_eq_false (fun e => HXE.out (by have h1 := HXY.out.1; rw [e, HXY.out.2] at h1; exact (Option.some.inj h1).symm))).symm, hBd⟩
      · obtain rfl : k = l1.length := by omega
        have hki : ¬ (l1.length : Int) < (l1.length : Int) := by omega
        rw [List.take_of_length_le (Nat.le_refl _), List.take_of_length_le (by rw [HLN.out]; exact Nat.le_refl _)] at HT
        have HE := Lib.hid HT
        clear HT
        go_wp2_with fail
        go_ret
        exact ⟨ret_bool (decide_eq_true HE.out).symm, hB⟩
  · have hle : ((l1.length : Int) != (l2.length : Int)) = true := by rw [bne_iff_ne]; omega
    have HE := Lib.hid (row_len_ne hlen)
    clear hlen
    go_enter Tryz.func178, Tryz.ntmps178
    go_wp2_with fail
    go_ret
    exact ⟨ret_bool HE.out.symm, Below.refl _ _⟩

theorem ext_eq {a b : ByteArray × List ByteArray} : decide (a = b) = (decide (a.1 = b.1) && decide (a.2 = b.2)) := by
  obtain ⟨a1, a2⟩ := a
  obtain ⟨b1, b2⟩ := b
  by_cases h1 : a1 = b1 <;> by_cases h2 : a2 = b2 <;> simp [h1, h2]
set_option maxRecDepth 100000 in
theorem sameExt_own (k1 k2 : ByteArray) (s1 s2 : List ByteArray) (v1 v2 : Value) (w : World) (h1 : Row w v1 s1) (h2 : Row w v2 s2) (hb : s1.length ≤ 1048576) :
    Calls Tryz.prog 181 #[.agg #[.string k1, v1], .agg #[.string k2, v2]] w fun e w' => e = .returned (.bool (decide ((k1, s1) = (k2, s2)))) ∧ Below w.heap.size w w' := by
  obtain ⟨W1, hW1⟩ : ∃ W1, (w.alloc (.cells #[.string k1, v1] 48)).alloc (.cells #[.string k2, v2] 48) = W1 := ⟨_, rfl⟩
  have hb1 : Below w.heap.size w W1 := by rw [← hW1]; exact ((Below.refl _ w).alloc (Nat.le_refl _) _).alloc (by simp) _
  have hA1 : W1.heap[w.heap.size]? = some (.cells #[.string k1, v1] 48 (0, 0)) := by rw [← hW1]; exact (Below.heap_alloc _ _ _ (by simp)).trans (World.alloc_heap_new w _)
  have hR1 : W1.heap[w.heap.size + 1]? = some (.cells #[.string k2, v2] 48 (0, 0)) := by rw [← hW1]; exact heap_alloc2_new w _ _
  obtain ⟨a0, a1, rfl, r1⟩ : ∃ ao c, v1 = .slice ao s1.length c ∧ Row w v1 s1 := by obtain ⟨ao, c, rfl, hh⟩ := h1; exact ⟨ao, c, rfl, ao, c, rfl, hh⟩
  obtain ⟨b0, b1, rfl, r2⟩ : ∃ ao c, v2 = .slice ao s2.length c ∧ Row w v2 s2 := by obtain ⟨ao, c, rfl, hh⟩ := h2; exact ⟨ao, c, rfl, ao, c, rfl, hh⟩
  have SR := Lib.hid (sameRow_own _ _ s1 s2 W1 (r1.below hb1) (r2.below hb1) hb)
  have HB := Lib.hid hb1
  have HE := Lib.hid (ext_eq (a := (k1, s1)) (b := (k2, s2)))
  dsimp only at HE
  obtain ⟨c0, c1⟩ : W1.cell? ⟨w.heap.size, 0, none⟩ = some (.string k1) ∧ W1.cell? ⟨w.heap.size, 1, none⟩ = some (.slice a0 s1.length a1) := by simp [World.cell?, hA1]
  obtain ⟨e0, e1⟩ : W1.cell? ⟨w.heap.size + 1, 0, none⟩ = some (.string k2) ∧ W1.cell? ⟨w.heap.size + 1, 1, none⟩ = some (.slice b0 s2.length b1) := by simp [World.cell?, hR1]
  have hs1 := hb1.size
  clear hb1 hA1 hR1 h1 h2 r1 r2 hb
  generalize decide (s1 = s2) = sb at *
  by_cases hk : k1 = k2
  · rw [decide_eq_true hk] at HE
    have hbb : (k1.toList == k2.toList) = true := by rw [hk]; exact beq_self_eq_true _
    clear hk
    go_enter Tryz.func181, Tryz.ntmps181
    go_upto_region 1 with fail
    clear hW1
    go_wp2_with (go_at_call 178; (with_reducible refine SR.out.mono ?_); rintro e w5 ⟨rfl, hb5⟩)
    go_ret
    exact ⟨ret_bool HE.out.symm, HB.out.trans (hb5.mono hs1)⟩
  · rw [decide_eq_false hk] at HE
    have hbb : (k1.toList == k2.toList) = false := toList_ne hk
    clear hk
    go_enter Tryz.func181, Tryz.ntmps181
    go_upto_region 1 with fail
    clear hW1
    go_wp2_with fail
    go_ret
    exact ⟨ret_bool HE.out.symm, HB.out⟩

theorem xrow_len_ne {l1 l2 : List (ByteArray × List ByteArray)} (h : l1.length ≠ l2.length) : decide (l1 = l2) = false := decide_eq_false fun e => h (by rw [e])
set_option maxRecDepth 100000 in
set_option maxHeartbeats 2000000 in
theorem sameRowX_own (v1 v2 : Value) (l1 l2 : List (ByteArray × List ByteArray)) (w : World) (h1 : ExtRow w v1 l1) (h2 : ExtRow w v2 l2) (hb : l1.length ≤ 1048576) (hs : ∀ x ∈ l1, x.2.length ≤ 1048576) :
    Calls Tryz.prog 180 #[v1, v2, .func (.func 181) #[] #[]] w fun e w' => e = .returned (.bool (decide (l1 = l2))) ∧ Below w.heap.size w w' := by
  obtain ⟨a1, p1, rfl, K1⟩ := h1
  obtain ⟨a2, p2, rfl, K2⟩ := h2
  have K1 := Lib.hid K1
  have K2 := Lib.hid K2
  by_cases hlen : l1.length = l2.length
  · have hle : ((l1.length : Int) != (l2.length : Int)) = false := by rw [hlen]; simp
    have HLN := Lib.hid hlen
    clear hlen
    go_enter Tryz.func180, Tryz.ntmps180
    go_wp2_with fail
    go_loopw [15] (fun i wr => ∃ k : Nat, k ≤ l1.length ∧ i = .int .i64 (k : Int) ∧ l1.take k = l2.take k ∧ Below w.heap.size w wr) (fun i _ => l1.length - (intOf i).toNat)
    case atStart => exact ⟨0, Nat.zero_le _, rfl, rfl, Below.refl _ _⟩
    case round =>
      obtain ⟨k, hk, rfl, HT, hB⟩ := hrel
      by_cases hlt : k < l1.length
      · have hki : (k : Int) < (l1.length : Int) := by omega
        have hk0 : (0 : Int) ≤ (k : Int) := by omega
        have hk2 : (k : Int) < (l2.length : Int) := by have := HLN.out; omega
        obtain ⟨x, hx⟩ : ∃ x, l1[k]? = some x := ⟨_, List.getElem?_eq_getElem hlt⟩
        obtain ⟨y, hy⟩ : ∃ y, l2[k]? = some y := ⟨_, List.getElem?_eq_getElem (by omega)⟩
        obtain ⟨g1, u1, rfl, c1, c2, r1⟩ := K1.out k x hx
        obtain ⟨g2, u2, rfl, c3, c4, r2⟩ := K2.out k y hy
        have HX := Lib.hid (fun (w' : World) (hb : Below w.heap.size w w') => show w'.cell? ⟨g1, k * 2, none⟩ = some (.string x.1) ∧ w'.cell? ⟨g1, k * 2 + 1, none⟩ = some u1 ∧ w'.cell? ⟨g2, k * 2, none⟩ = some (.string y.1) ∧ w'.cell? ⟨g2, k * 2 + 1, none⟩ = some u2 from ⟨(hb.cell (p := ⟨g1, k * 2, none⟩) (lt_of_cellF c1)).trans c1, (hb.cell (p := ⟨g1, k * 2 + 1, none⟩) (lt_of_cellF c2)).trans c2, (hb.cell (p := ⟨g2, k * 2, none⟩) (lt_of_cellF c3)).trans c3, (hb.cell (p := ⟨g2, k * 2 + 1, none⟩) (lt_of_cellF c4)).trans c4⟩)
        have hBd : Below w.heap.size w wr.drew := Below.drew hB
        obtain ⟨q1, q2, q3, q4⟩ := HX.out _ hBd
        have ST := Lib.hid (fun w5 (hb5 : Below w.heap.size w w5) => (sameExt_own x.1 y.1 x.2 y.2 u1 u2 w5 (r1.below hb5) (r2.below hb5) (hs x (List.mem_of_getElem? hx))).mono (R' := fun e w6 => e = .returned (.bool (decide (x = y))) ∧ Below w.heap.size w w6) fun e w6 ⟨p, q⟩ => ⟨p, hb5.trans (q.mono hb5.size)⟩)
        have HTL := Lib.hid HT
        have HXY := Lib.hid (And.intro hx hy)
        clear HT hx hy c1 c2 c3 c4 hs
        by_cases hxy : x = y
        · have HXE := Lib.hid hxy
          rw [decide_eq_true hxy] at ST
          clear hxy
          go_upto_region 6 with fail
          go_region_held3 (fun w' => Below w.heap.size w w' ∧ w'.cell? ⟨g1, k * 2, none⟩ = some (.string x.1) ∧ w'.cell? ⟨g1, k * 2 + 1, none⟩ = some u1 ∧ w'.cell? ⟨g2, k * 2, none⟩ = some (.string y.1) ∧ w'.cell? ⟨g2, k * 2 + 1, none⟩ = some u2)
            (first | exact ⟨by assumption, by assumption, by assumption, by assumption, by assumption⟩ | exact ⟨hB6, HX.out _ hB6⟩)
            (first | (go_at_call 181; (with_reducible refine (ST.out _ (by assumption)).mono ?_); rintro e w5 ⟨rfl, hB6⟩))
          go_wp2_with fail
          go_roundw
          case rel =>
            have hx := HXY.out.1
            have hy := HXY.out.2
            rw [← HXE.out] at hy
            exact ⟨k + 1, by omega, by go_num, take_eq_next HTL.out hx hy, hB6⟩
          case measure => simp [intOf]; omega
        · have HXE := Lib.hid hxy
          rw [decide_eq_false hxy] at ST
          clear hxy
          go_upto_region 6 with fail
          go_region_held3 (fun w' => Below w.heap.size w w' ∧ w'.cell? ⟨g1, k * 2, none⟩ = some (.string x.1) ∧ w'.cell? ⟨g1, k * 2 + 1, none⟩ = some u1 ∧ w'.cell? ⟨g2, k * 2, none⟩ = some (.string y.1) ∧ w'.cell? ⟨g2, k * 2 + 1, none⟩ = some u2)
            (first | exact ⟨by assumption, by assumption, by assumption, by assumption, by assumption⟩ | exact ⟨hB6, HX.out _ hB6⟩)
            (first | (go_at_call 181; (with_reducible refine (ST.out _ (by assumption)).mono ?_); rintro e w5 ⟨rfl, hB6⟩))
          go_wp2_with fail
          go_ret
          exact ⟨ret_bool (decide_eq_false (fun e => HXE.out (by have h1 := HXY.out.1; rw [e, HXY.out.2] at h1; exact (Option.some.inj h1).symm))).symm, hB6⟩
      · obtain rfl : k = l1.length := by omega
        have hki : ¬ (l1.length : Int) < (l1.length : Int) := by omega
        rw [List.take_of_length_le (Nat.le_refl _), List.take_of_length_le (by rw [HLN.out]; exact Nat.le_refl _)] at HT
        have HE := Lib.hid HT
        clear HT
        go_wp2_with fail
        go_ret
        exact ⟨ret_bool (decide_eq_true HE.out).symm, hB⟩
  · have hle : ((l1.length : Int) != (l2.length : Int)) = true := by rw [bne_iff_ne]; omega
    have HE := Lib.hid (xrow_len_ne hlen)
    clear hlen
    go_enter Tryz.func180, Tryz.ntmps180
    go_wp2_with fail
    go_ret
    exact ⟨ret_bool HE.out.symm, Below.refl _ _⟩

theorem bools4 (a b c d : Bool) : a = false ∨ (a = true ∧ b = false) ∨ (a = true ∧ b = true ∧ c = false) ∨ (a = true ∧ b = true ∧ c = true ∧ d = false) ∨ (a = true ∧ b = true ∧ c = true ∧ d = true) := by
  cases a <;> cases b <;> cases c <;> cases d <;> simp
theorem sameT_order (A B : TagM) : sameT A B = (decide (A.lang = B.lang) && (decide (A.script = B.script) && (decide (A.region = B.region) && (decide (A.grand = B.grand) && (decide (A.extl = B.extl) && (decide (A.vars = B.vars) && (decide (A.exts = B.exts) && decide (A.priv = B.priv)))))))) := by
  unfold sameT
  cases decide (A.extl = B.extl) <;> cases decide (A.vars = B.vars) <;> cases decide (A.priv = B.priv) <;> cases decide (A.lang = B.lang) <;> cases decide (A.script = B.script) <;> cases decide (A.region = B.region) <;> cases decide (A.grand = B.grand) <;> cases decide (A.exts = B.exts) <;> rfl
set_option maxRecDepth 100000 in
set_option maxHeartbeats 4000000 in
theorem same_own (v1 v2 : Value) (A B : TagM) (w : World) (hA : TagIs w v1 A) (hB : TagIs w v2 B) (FA : TagFits A) :
    Calls Tryz.prog 146 #[v1, v2] w fun e w' => e = .returned (.bool (sameT A B)) ∧ Below w.heap.size w w' := by
  have HS := Lib.hid (sameT_order A B)
  generalize sameT A B = sm at *
  obtain ⟨ve, vv, vx, vp, rfl, R1, R2, R3, R4⟩ := hA
  obtain ⟨ue, uv, ux, up, rfl, Q1, Q2, Q3, Q4⟩ := hB
  obtain ⟨F1, F2, F3, F4, F5, F6⟩ := FA
  obtain ⟨l1, E1, s1, r1, V1, X1, P1, g1⟩ := A
  obtain ⟨l2, E2, s2, r2, V2, X2, P2, g2⟩ := B
  dsimp only at *
  obtain ⟨W1, hW1⟩ : ∃ W1, (w.alloc (.cells #[.string l1, ve, .string s1, .string r1, vv, vx, vp, .string g1] 31)).alloc (.cells #[.string l2, ue, .string s2, .string r2, uv, ux, up, .string g2] 31) = W1 := ⟨_, rfl⟩
  have hb1 : Below w.heap.size w W1 := by rw [← hW1]; exact ((Below.refl _ w).alloc (Nat.le_refl _) _).alloc (by simp) _
  have hA1 : W1.heap[w.heap.size]? = some (.cells #[.string l1, ve, .string s1, .string r1, vv, vx, vp, .string g1] 31 (0, 0)) := by rw [← hW1]; exact (Below.heap_alloc _ _ _ (by simp)).trans (World.alloc_heap_new w _)
  have hB1 : W1.heap[w.heap.size + 1]? = some (.cells #[.string l2, ue, .string s2, .string r2, uv, ux, up, .string g2] 31 (0, 0)) := by rw [← hW1]; exact heap_alloc2_new w _ _
  have hlA := lt_of_heapJ hA1
  have hlB := lt_of_heapJ hB1
  have HC := Lib.hid (fun wr (hb : Below W1.heap.size W1 wr) => And.intro (tag_cells ((hb.block _ hlA).trans hA1)) (tag_cells ((hb.block _ hlB).trans hB1)))
  obtain ⟨⟨d0, d1, d2, d3, d4, d5, d6, d7⟩, e0, e1, e2, e3, e4, e5, e6, e7⟩ := HC.out W1 (Below.refl _ _)
  have T1 := onward W1 (fun w5 => sameText_own g1 g2 w5 |>.mono fun e w6 ⟨p, q⟩ => (⟨p, q ▸ Below.refl _ _⟩ : e = .returned (.bool (decide (g1 = g2))) ∧ Below w5.heap.size w5 w6))
  have S1 := Lib.hid (fun w5 (hb : Below W1.heap.size W1 w5) => (sameRow_own ve ue E1 E2 w5 ((R1.below hb1).below hb) ((Q1.below hb1).below hb) (by omega)).mono (R' := fun e w6 => e = .returned (.bool (decide (E1 = E2))) ∧ Below W1.heap.size W1 w6) fun e w6 ⟨p, q⟩ => ⟨p, hb.trans (q.mono hb.size)⟩)
  have S2 := Lib.hid (fun w5 (hb : Below W1.heap.size W1 w5) => (sameRow_own vv uv V1 V2 w5 ((R2.below hb1).below hb) ((Q2.below hb1).below hb) (by omega)).mono (R' := fun e w6 => e = .returned (.bool (decide (V1 = V2))) ∧ Below W1.heap.size W1 w6) fun e w6 ⟨p, q⟩ => ⟨p, hb.trans (q.mono hb.size)⟩)
  have S3 := Lib.hid (fun w5 (hb : Below W1.heap.size W1 w5) => (sameRowX_own vx ux X1 X2 w5 ((R3.below hb1).below hb) ((Q3.below hb1).below hb) (by omega) (fun x hx => by have := F4 x hx; omega)).mono (R' := fun e w6 => e = .returned (.bool (decide (X1 = X2))) ∧ Below W1.heap.size W1 w6) fun e w6 ⟨p, q⟩ => ⟨p, hb.trans (q.mono hb.size)⟩)
  have S4 := Lib.hid (fun w5 (hb : Below W1.heap.size W1 w5) => (sameRow_own vp up P1 P2 w5 ((R4.below hb1).below hb) ((Q4.below hb1).below hb) (by omega)).mono (R' := fun e w6 => e = .returned (.bool (decide (P1 = P2))) ∧ Below W1.heap.size W1 w6) fun e w6 ⟨p, q⟩ => ⟨p, hb.trans (q.mono hb.size)⟩)
  have HBW := Lib.hid hb1
  have hs1 := hb1.size
  have hBr : Below W1.heap.size W1 W1 := Below.refl _ _
  clear T1 R1 R2 R3 R4 Q1 Q2 Q3 Q4 F1 F2 F3 F4 F5 F6 hA1 hB1 hb1
  generalize decide (E1 = E2) = b1 at *
  generalize decide (V1 = V2) = b2 at *
  generalize decide (X1 = X2) = b3 at *
  generalize decide (P1 = P2) = b4 at *
  by_cases k0 : l1 = l2
  · rw [decide_eq_true k0] at HS
    have m0 : (l1.toList == l2.toList) = true := by rw [k0]; exact beq_self_eq_true _
    clear k0
    by_cases k1 : s1 = s2
    · rw [decide_eq_true k1] at HS
      have m1 : (s1.toList == s2.toList) = true := by rw [k1]; exact beq_self_eq_true _
      clear k1
      by_cases k2 : r1 = r2
      · rw [decide_eq_true k2] at HS
        have m2 : (r1.toList == r2.toList) = true := by rw [k2]; exact beq_self_eq_true _
        clear k2
        by_cases k3 : g1 = g2
        · rw [decide_eq_true k3] at HS
          have m3 : (g1.toList == g2.toList) = true := by rw [k3]; exact beq_self_eq_true _
          clear k3
          rcases bools4 b1 b2 b3 b4 with rfl | ⟨rfl, rfl⟩ | ⟨rfl, rfl, rfl⟩ | ⟨rfl, rfl, rfl, rfl⟩ | ⟨rfl, rfl, rfl, rfl⟩
          all_goals
            go_enter Tryz.func146, Tryz.ntmps146
            go_wp2_with (first | (go_at_call 178; (first | (with_reducible refine (S1.out _ (by assumption)).mono ?_) | (with_reducible refine (S2.out _ (by assumption)).mono ?_) | (with_reducible refine (S4.out _ (by assumption)).mono ?_)); rintro e w5 ⟨rfl, hb5⟩; obtain ⟨⟨d0, d1, d2, d3, d4, d5, d6, d7⟩, e0, e1, e2, e3, e4, e5, e6, e7⟩ := HC.out _ hb5) | (go_at_call 180; (with_reducible refine (S3.out _ (by assumption)).mono ?_); rintro e w5 ⟨rfl, hb5⟩; obtain ⟨⟨d0, d1, d2, d3, d4, d5, d6, d7⟩, e0, e1, e2, e3, e4, e5, e6, e7⟩ := HC.out _ hb5))
            go_ret
            exact ⟨ret_bool HS.out.symm, HBW.out.trans (Below.mono (by assumption) hs1)⟩
        · rw [decide_eq_false k3] at HS
          have m3 : (g1.toList == g2.toList) = false := toList_ne k3
          clear k3
          go_enter Tryz.func146, Tryz.ntmps146
          go_wp2_with (first | (go_at_call 178; (first | (with_reducible refine (S1.out _ (by assumption)).mono ?_) | (with_reducible refine (S2.out _ (by assumption)).mono ?_) | (with_reducible refine (S4.out _ (by assumption)).mono ?_)); rintro e w5 ⟨rfl, hb5⟩; obtain ⟨⟨d0, d1, d2, d3, d4, d5, d6, d7⟩, e0, e1, e2, e3, e4, e5, e6, e7⟩ := HC.out _ hb5) | (go_at_call 180; (with_reducible refine (S3.out _ (by assumption)).mono ?_); rintro e w5 ⟨rfl, hb5⟩; obtain ⟨⟨d0, d1, d2, d3, d4, d5, d6, d7⟩, e0, e1, e2, e3, e4, e5, e6, e7⟩ := HC.out _ hb5))
          go_ret
          exact ⟨ret_bool HS.out.symm, HBW.out.trans (Below.mono (by assumption) hs1)⟩
      · rw [decide_eq_false k2] at HS
        have m2 : (r1.toList == r2.toList) = false := toList_ne k2
        clear k2
        go_enter Tryz.func146, Tryz.ntmps146
        go_wp2_with (first | (go_at_call 178; (first | (with_reducible refine (S1.out _ (by assumption)).mono ?_) | (with_reducible refine (S2.out _ (by assumption)).mono ?_) | (with_reducible refine (S4.out _ (by assumption)).mono ?_)); rintro e w5 ⟨rfl, hb5⟩; obtain ⟨⟨d0, d1, d2, d3, d4, d5, d6, d7⟩, e0, e1, e2, e3, e4, e5, e6, e7⟩ := HC.out _ hb5) | (go_at_call 180; (with_reducible refine (S3.out _ (by assumption)).mono ?_); rintro e w5 ⟨rfl, hb5⟩; obtain ⟨⟨d0, d1, d2, d3, d4, d5, d6, d7⟩, e0, e1, e2, e3, e4, e5, e6, e7⟩ := HC.out _ hb5))
        go_ret
        exact ⟨ret_bool HS.out.symm, HBW.out.trans (Below.mono (by assumption) hs1)⟩
    · rw [decide_eq_false k1] at HS
      have m1 : (s1.toList == s2.toList) = false := toList_ne k1
      clear k1
      go_enter Tryz.func146, Tryz.ntmps146
      go_wp2_with (first | (go_at_call 178; (first | (with_reducible refine (S1.out _ (by assumption)).mono ?_) | (with_reducible refine (S2.out _ (by assumption)).mono ?_) | (with_reducible refine (S4.out _ (by assumption)).mono ?_)); rintro e w5 ⟨rfl, hb5⟩; obtain ⟨⟨d0, d1, d2, d3, d4, d5, d6, d7⟩, e0, e1, e2, e3, e4, e5, e6, e7⟩ := HC.out _ hb5) | (go_at_call 180; (with_reducible refine (S3.out _ (by assumption)).mono ?_); rintro e w5 ⟨rfl, hb5⟩; obtain ⟨⟨d0, d1, d2, d3, d4, d5, d6, d7⟩, e0, e1, e2, e3, e4, e5, e6, e7⟩ := HC.out _ hb5))
      go_ret
      exact ⟨ret_bool HS.out.symm, HBW.out.trans (Below.mono (by assumption) hs1)⟩
  · rw [decide_eq_false k0] at HS
    have m0 : (l1.toList == l2.toList) = false := toList_ne k0
    clear k0
    go_enter Tryz.func146, Tryz.ntmps146
    go_wp2_with (first | (go_at_call 178; (first | (with_reducible refine (S1.out _ (by assumption)).mono ?_) | (with_reducible refine (S2.out _ (by assumption)).mono ?_) | (with_reducible refine (S4.out _ (by assumption)).mono ?_)); rintro e w5 ⟨rfl, hb5⟩; obtain ⟨⟨d0, d1, d2, d3, d4, d5, d6, d7⟩, e0, e1, e2, e3, e4, e5, e6, e7⟩ := HC.out _ hb5) | (go_at_call 180; (with_reducible refine (S3.out _ (by assumption)).mono ?_); rintro e w5 ⟨rfl, hb5⟩; obtain ⟨⟨d0, d1, d2, d3, d4, d5, d6, d7⟩, e0, e1, e2, e3, e4, e5, e6, e7⟩ := HC.out _ hb5))
    go_ret
    exact ⟨ret_bool HS.out.symm, HBW.out.trans (Below.mono (by assumption) hs1)⟩
end Go.Proofs.YtggfdmhfcpabdaaGreatDoor
