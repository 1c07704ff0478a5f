/-
  The document's own answers for package split: Each, Split. The document's own answers for package split: Split. The document's own answers for package split: Sub, Check. Texts joined, plain. The document's own answers for package split: Join.
-/
import Derived.Test.YtpnhjpplfjamkaaGreatDoorPiece
import Derived.WideShapes
import Derived.Test.YtpnhjpplfjamkaaGreatDoorFault
/-! The document's own answers for package split: Each, Split. -/
namespace Go.Proofs.YtpnhjpplfjamkaaGreatDoor
open Go Go.RowKit

def pcells (l : List (Nat × ByteArray)) : List Value := l.flatMap fun x => [.int .i64 (x.1 : Int), .string x.2]
theorem pcells_append (a b : List (Nat × ByteArray)) : pcells (a ++ b) = pcells a ++ pcells b := by simp [pcells]
theorem pcells_length (l : List (Nat × ByteArray)) : (pcells l).length = l.length * 2 := by
  induction l with
  | nil => rfl
  | cons x r ih => simp [pcells] at ih ⊢; omega
theorem pcells_get {l : List (Nat × ByteArray)} {i : Nat} {x : Nat × ByteArray} (h : l[i]? = some x) : (pcells l)[i * 2]? = some (.int .i64 (x.1 : Int)) ∧ (pcells l)[i * 2 + 1]? = some (.string x.2) := by
  induction l generalizing i with
  | nil => simp at h
  | cons y r ih =>
    have e : pcells (y :: r) = [.int .i64 (y.1 : Int), .string y.2] ++ pcells r := rfl
    cases i with
    | zero => simp at h; subst h; rw [e]; simp
    | succ i =>
      simp at h
      obtain ⟨h1, h2⟩ := ih h
      rw [e]
      constructor
      · rw [List.getElem?_append_right (by simp; omega)]; simp; rw [show (i + 1) * 2 - 2 = i * 2 by omega]; exact h1
      · rw [List.getElem?_append_right (by simp; omega)]; simp; rw [show (i + 1) * 2 - 1 = i * 2 + 1 by omega]; exact h2
theorem pieceInfo : (Tryz.prog.info? 119).map (fun i => (i.zero, i.size, i.bytes)) = some (some (.agg #[.int .i64 0, .string ByteArray.empty]), 2, 24) := by kernel_rfl

/-- What the rounds of the document's Each keep. -/
def EaR (s : ByteArray) (k a : Nat) (pre : List (Nat × ByteArray)) : Prop :=
  (k ≤ s.size ∧ a ≤ k ∧ pieces s = pre ++ placed a (spl ((bs s).drop a)) ∧ (45 : UInt8) ∉ ((bs s).take k).drop a) ∨ (k = s.size + 1 ∧ pieces s = pre)
theorem EaR.start (s : ByteArray) : EaR s 0 0 [] := .inl ⟨Nat.zero_le _, Nat.le_refl _, rfl, by simp⟩
theorem EaR.pass {s : ByteArray} {k a : Nat} {pre : List (Nat × ByteArray)} (h : EaR s k a pre) (hk : k < s.size) (hc : s[k] ≠ 45) : EaR s (k + 1) a pre := by
  rcases h with ⟨_, h2, h3, h4⟩ | ⟨h1, _⟩
  · refine .inl ⟨hk, by omega, h3, ?_⟩
    rw [bs_take_succ s k hk, List.drop_append_of_le_length (by rw [List.length_take, size_bs]; omega), List.mem_append, not_or]
    exact ⟨h4, by simpa using fun e => hc e.symm⟩
  · omega
theorem drop_split (s : ByteArray) (k a : Nat) (hk : k < s.size) (ha : a ≤ k) (hc : s[k] = 45) : (bs s).drop a = ((bs s).take k).drop a ++ 45 :: (bs s).drop (k + 1) := by
  have e : bs s = (bs s).take k ++ 45 :: (bs s).drop (k + 1) := by
    have hk' : k < (bs s).length := by rw [size_bs]; exact hk
    have hg : (bs s)[k] = 45 := by
      have := bs_get s k hk
      rw [List.getElem?_eq_getElem hk'] at this
      rw [Option.some.inj this, hc]
    conv => lhs; rw [← List.take_append_drop k (bs s), List.drop_eq_getElem_cons hk', hg]
  conv => lhs; rw [e]
  rw [List.drop_append_of_le_length (by rw [List.length_take, size_bs]; omega)]
theorem extract_take (s : ByteArray) (a k : Nat) : s.extract a k = ofL (((bs s).take k).drop a) := by
  apply ofL_ext
  rw [bs_ofL, bs_extract, List.drop_take]
theorem EaR.put {s : ByteArray} {k a : Nat} {pre : List (Nat × ByteArray)} (h : EaR s k a pre) (hk : k < s.size) (hc : s[k] = 45) : EaR s (k + 1) (k + 1) (pre ++ [(a, s.extract a k)]) := by
  rcases h with ⟨_, h2, h3, h4⟩ | ⟨h1, _⟩
  · refine .inl ⟨hk, Nat.le_refl _, ?_, by rw [List.drop_of_length_le (by rw [List.length_take]; omega)]; simp⟩
    rw [h3, drop_split s k a hk h2 hc, spl_app, spl_plain h4, List.append_assoc]
    have hl : a + (((bs s).take k).drop a).length + 1 = k + 1 := by rw [List.length_drop, List.length_take, size_bs]; omega
    show pre ++ ((a, ofL (((bs s).take k).drop a)) :: placed (a + (((bs s).take k).drop a).length + 1) (spl ((bs s).drop (k + 1)))) = _
    rw [hl, extract_take]; rfl
  · omega
theorem EaR.last {s : ByteArray} {a : Nat} {pre : List (Nat × ByteArray)} (h : EaR s s.size a pre) : EaR s (s.size + 1) (s.size + 1) (pre ++ [(a, s.extract a s.size)]) := by
  rcases h with ⟨_, h2, h3, h4⟩ | ⟨h1, _⟩
  · refine .inr ⟨rfl, ?_⟩
    rw [List.take_of_length_le (by rw [size_bs]; exact Nat.le_refl _)] at h4
    rw [h3, spl_plain h4, drop_extract]; rfl
  · omega
theorem EaR.len {s : ByteArray} {k a : Nat} {pre : List (Nat × ByteArray)} (h : EaR s k a pre) : pre.length ≤ s.size + 1 := by
  have h1 : pre.length ≤ (pieces s).length := by
    rcases h with ⟨_, _, h3, _⟩ | ⟨_, h3⟩
    · rw [h3, List.length_append]; omega
    · rw [h3]; exact Nat.le_refl _
  have := splS_le s
  rw [pieces_length] at h1
  omega
theorem EaR.le {s : ByteArray} {k a : Nat} {pre : List (Nat × ByteArray)} (h : EaR s k a pre) (hk : k ≤ s.size) : a ≤ k := by
  rcases h with ⟨_, h2, _⟩ | ⟨h1, _⟩ <;> omega
theorem EaR.fin {s : ByteArray} {a : Nat} {pre : List (Nat × ByteArray)} (h : EaR s (s.size + 1) a pre) : pieces s = pre := by
  rcases h with ⟨h1, _⟩ | ⟨_, h⟩
  · omega
  · exact h

theorem cell_pair (w : World) (x y : Value) (t : TypeId) : ∀ j u, [x, y][j]? = some u → (w.alloc (.cells #[x, y] t)).cell? ((⟨w.heap.size, 0, none⟩ : Addr).add j) = some u := by
  intro j u h
  rw [Go.WideShapes.add_plain, Nat.zero_add]
  rcases j with _ | _ | j
  · simp at h; subst h; rw [World.cell?_alloc_at _ _ _ _ (by simp)]; rfl
  · simp at h; subst h; rw [World.cell?_alloc_at _ _ _ _ (by simp)]; rfl
  · simp at h

set_option maxRecDepth 100000 in
set_option maxHeartbeats 4000000 in
theorem each_ref (s : ByteArray) (w : World) (hs : s.size ≤ 1048576) :
    Calls Tryz.prog 45 #[.string s] w fun e w' => ∃ u, e = .returned u ∧ w'.ownsRow w.heap.size 119 2 u (pieces s).length (pcells (pieces s)) ∧ Below w.heap.size w w' := by
  obtain ⟨i0, hi, hz0, hz1, hz2⟩ := info_parts pieceInfo
  go_enter Tryz.func45, Tryz.ntmps45
  go_wp2
  go_loopw [3, 4, 5] (fun o av i wr => ∃ (k a : Nat) (pre : List (Nat × ByteArray)), k ≤ s.size + 1 ∧ i = .int .i64 k ∧ av = .int .i64 a ∧ Hid (EaR s k a pre) ∧ wr.ownsRow w.heap.size 119 2 o pre.length (pcells pre) ∧ Below w.heap.size w wr) (fun _ _ i _ => s.size + 2 - (intOf i).toNat)
  case atStart => exact ⟨0, 0, [], Nat.zero_le _, rfl, rfl, EaR.start s, World.ownsRow_nil _ _ _ _, Below.refl _ _⟩
  case round =>
    obtain ⟨k, a, pre, hk, rfl, rfl, HE, hown, hB⟩ := hrel
    have hpl := HE.out.len
    have hsz : w.heap.size ≤ wr.heap.size := hB.size
    have HO := Lib.hid hown
    rcases Nat.lt_or_ge k s.size with hlt | hge
    · have hle := HE.out.le (by omega)
      have hki : (k : Int) ≤ (s.size : Int) := by omega
      have hke : ((k : Int) == (s.size : Int)) = false := by simp; omega
      have hk0 : (0 : Int) ≤ (k : Int) := by omega
      have hka : (a : Int) ≤ (k : Int) := by omega
      have ha0 : (0 : Int) ≤ (a : Int) := by omega
      by_cases hc : s[k] = 45
      · have HS := Lib.hid (HE.out.put hlt hc)
        have e1 := (mark_true hc).1
        clear hc hown
        go_wp2_with (at_builtin; refine wpList_append_own _ rfl _ _ 88 rfl w.heap.size 119 i0 (.agg #[.int .i64 0, .string ByteArray.empty]) 2 24 Tryz.underlying88 hi hz0 hz1 hz2 rfl (by decide) _ _ _ rfl (HO.out.alloc _) ⟨wr.heap.size, 0, none⟩ 1 1 [.int .i64 (a : Int), .string (s.extract a k)] rfl rfl (cell_pair _ _ _ _) (by intro u hu; simp at hu; rcases hu with rfl | rfl <;> rfl) (by unfold maxLen; omega) (by omega) (by simp; omega) ?_; intro v' w1 hown1 hgrow _)
        go_roundw
        case rel => exact ⟨k + 1, k + 1, pre ++ [(a, s.extract a k)], by omega, by go_num, by go_num, HS, by rw [List.length_append, pcells_append]; exact hown1, (hB.alloc hB.size _).grown hgrow (by simp; omega) (fun r e => (HO.out.lt r e).1)⟩
        case measure => simp [intOf]; omega
      · have HS := Lib.hid (HE.out.pass hlt hc)
        have e1 := (mark_false hc).1
        clear hc hown
        go_wp2
        go_roundw
        case rel => exact ⟨k + 1, a, pre, by omega, by go_num, rfl, HS, HO.out, hB⟩
        case measure => simp [intOf]; omega
    · rcases Nat.lt_or_ge s.size k with hgt | hle2
      · obtain rfl : k = s.size + 1 := by omega
        have HP := Lib.hid HE.out.fin
        have hki : ¬ ((s.size : Int) + 1 ≤ (s.size : Int)) := by omega
        clear HE hpl hown
        go_wp2
        go_ret
        exact ⟨_, rfl, by rw [HP.out]; exact HO.out, hB⟩
      · obtain rfl : k = s.size := by omega
        have hle := HE.out.le (Nat.le_refl _)
        have HS := Lib.hid HE.out.last
        have ha0 : (0 : Int) ≤ (a : Int) := by omega
        have hka : (a : Int) ≤ (s.size : Int) := by omega
        clear hown
        go_wp2_with (at_builtin; refine wpList_append_own _ rfl _ _ 88 rfl w.heap.size 119 i0 (.agg #[.int .i64 0, .string ByteArray.empty]) 2 24 Tryz.underlying88 hi hz0 hz1 hz2 rfl (by decide) _ _ _ rfl (HO.out.alloc _) ⟨wr.heap.size, 0, none⟩ 1 1 [.int .i64 (a : Int), .string (s.extract a s.size)] rfl rfl (cell_pair _ _ _ _) (by intro u hu; simp at hu; rcases hu with rfl | rfl <;> rfl) (by unfold maxLen; omega) (by omega) (by simp; omega) ?_; intro v' w1 hown1 hgrow _)
        go_roundw
        case rel => exact ⟨s.size + 1, s.size + 1, pre ++ [(a, s.extract a s.size)], by omega, by go_num, by go_num, HS, by rw [List.length_append, pcells_append]; exact hown1, (hB.alloc hB.size _).grown hgrow (by simp; omega) (fun r e => (HO.out.lt r e).1)⟩
        case measure => simp [intOf]
end Go.Proofs.YtpnhjpplfjamkaaGreatDoor

/-! The document's own answers for package split: Split. -/
namespace Go.Proofs.YtpnhjpplfjamkaaGreatDoor
open Go Go.RowKit

theorem own_pieces {w : World} {base g n cap : Nat} {l : List (Nat × ByteArray)} (h : w.ownsRow base 119 2 (.slice (some ⟨g, 0, none⟩) n cap) n (pcells l)) : ∀ i x, l[i]? = some x → w.cell? ⟨g, i * 2, none⟩ = some (.int .i64 (x.1 : Int)) ∧ w.cell? ⟨g, i * 2 + 1, none⟩ = some (.string x.2) := fun i x hx => by
  have hl : l.length = n := by have := h.1; rw [pcells_length] at this; omega
  have hi := (List.getElem?_eq_some_iff.1 hx).1
  obtain ⟨h1, h2⟩ := pcells_get hx
  exact ⟨(h.cellAt (i * 2) (by omega)).trans h1, (h.cellAt (i * 2 + 1) (by omega)).trans h2⟩

set_option maxRecDepth 100000 in
set_option maxHeartbeats 4000000 in
theorem split_ref (s : ByteArray) (w : World) (hs : s.size ≤ 1048576) :
    Calls Tryz.prog 41 #[.string s] w fun e w' => ∃ u, e = .returned u ∧ w'.ownsRow w.heap.size 9 1 u (splS s).length (strs (splS s)) ∧ Below w.heap.size w w' := by
  obtain ⟨i0, hi, hz0, hz1, hz2⟩ := info_parts stringInfo
  obtain ⟨n, hn⟩ : ∃ m, (pieces s).length = m + 1 := ⟨(pieces s).length - 1, by have := splS_pos s; rw [pieces_length]; omega⟩
  have hnb : n ≤ 1048576 := by have := splS_le s; rw [← pieces_length] at this; omega
  have HN := Lib.hid hn
  have E1 := Lib.hid (each_ref s w hs)
  rw [hn] at E1
  clear hn
  go_enter Tryz.func41, Tryz.ntmps41
  go_wp2_with (go_at_call 45; ((with_reducible refine E1.out.mono ?_); rintro e w1 ⟨u, rfl, ho, hb1⟩; obtain ⟨g, cap, rfl⟩ := ownsRow_succ ho; have HC := Lib.hid (own_pieces ho); have hg1 : g < w1.heap.size := (ho.lt g rfl).2; clear ho))
  go_loopw [3, 5] (fun o i wr => ∃ k : Nat, k ≤ n + 1 ∧ i = .int .i64 k ∧ wr.ownsRow w1.heap.size 9 1 o k (strs (((pieces s).take k).map (·.2))) ∧ Below w1.heap.size w1 wr) (fun _ i _ => n + 1 - (intOf i).toNat)
  case atStart => exact ⟨0, Nat.zero_le _, rfl, World.ownsRow_nil _ _ _ _, Below.refl _ _⟩
  case round =>
    obtain ⟨k, hk, rfl, hown, hB⟩ := hrel
    have HO := Lib.hid hown
    have hsz : w1.heap.size ≤ wr.heap.size := hB.size
    rcases Nat.lt_or_ge k (n + 1) with hlt | hge
    · have hkl : k < (pieces s).length := by rw [HN.out]; exact hlt
      obtain ⟨x, hx⟩ : ∃ x, (pieces s)[k] = x := ⟨_, rfl⟩
      have hc2 : wr.cell? ⟨g, k * 2 + 1, none⟩ = some (.string x.2) := (hB.cell (p := ⟨g, k * 2 + 1, none⟩) hg1).trans (HC.out k x (by rw [List.getElem?_eq_getElem hkl, hx])).2
      have HS := Lib.hid (show strs (((pieces s).take (k + 1)).map (·.2)) = strs (((pieces s).take k).map (·.2)) ++ [.string x.2] by
        rw [List.take_succ_eq_append_getElem hkl, List.map_append, strs_append, hx]; rfl)
      have hki : (k : Int) < (n : Int) + 1 := by omega
      have hk0 : (0 : Int) ≤ (k : Int) := by omega
      clear hown hx hkl
      go_wp2_with (at_builtin; refine wpList_append_own _ rfl _ _ 28 rfl w1.heap.size 9 i0 (.string ByteArray.empty) 1 16 Tryz.underlying28 hi hz0 hz1 hz2 rfl (by decide) _ k _ rfl (HO.out.alloc _) ⟨wr.heap.size, 0, none⟩ 1 1 [.string x.2] rfl rfl (cell_one_new _ _ _) (by intro u hu; simp at hu; subst hu; rfl) (by unfold maxLen; omega) (by omega) (by simp; omega) ?_; intro v' w2 hown1 hgrow _)
      go_roundw
      case rel => exact ⟨k + 1, by omega, by go_num, by rw [HS.out]; exact hown1, (hB.alloc hB.size _).grown hgrow (by simp; omega) (fun r e => (HO.out.lt r e).1)⟩
      case measure => simp [intOf]; omega
    · obtain rfl : k = n + 1 := by omega
      have hall : (pieces s).take (n + 1) = pieces s := List.take_of_length_le (by rw [HN.out]; exact Nat.le_refl _)
      have HF := Lib.hid (show wr.ownsRow w1.heap.size 9 1 u3 (splS s).length (strs (splS s)) by
        have h := HO.out
        rw [hall, pieces_map] at h
        rw [← pieces_length, HN.out]; exact h)
      clear hown hall
      go_wp2
      go_ret
      exact ⟨_, rfl, own_lower HF.out hb1.size, hb1.trans (hB.mono hb1.size)⟩
end Go.Proofs.YtpnhjpplfjamkaaGreatDoor

/-! The document's own answers for package split: Sub, Check. -/
namespace Go.Proofs.YtpnhjpplfjamkaaGreatDoor
open Go Go.RowKit

theorem class_pos (s : ByteArray) : decide ((0 : Int) < classS s) = alnumS s := by
  obtain ⟨c, a, d, n, h⟩ := classIs s
  cases h with
  | none h0 h1 h2 h3 => rw [h0, h3]; rfl
  | alpha h0 h1 h2 h3 => rw [h0, h3]; rfl
  | digit h0 h1 h2 h3 => rw [h0, h3]; rfl
  | alnum h0 h1 h2 h3 => rw [h0, h3]; rfl
set_option maxRecDepth 100000 in
set_option maxHeartbeats 1000000 in
theorem sub_ref (s : ByteArray) (w : World) (hs : s.size ≤ 1048576) :
    Calls Tryz.prog 77 #[.string s] w fun e w' => e = .returned (.bool (okS s)) ∧ w = w' := by
  have C1 := Lib.hid (fun w5 => class_ref s w5 (by omega))
  have hcp := class_pos s
  by_cases h8 : s.size ≤ 8
  · have h8i : (s.size : Int) ≤ 8 := by omega
    have HE := Lib.hid (show okS s = alnumS s by unfold okS; rw [decide_eq_true h8, Bool.true_and])
    generalize alnumS s = t at *
    generalize classS s = c at *
    have HCP := Lib.hid hcp
    clear h8
    cases t
    · have hc0 : ¬ (0 : Int) < c := by simpa using hcp
      clear hcp
      go_enter Tryz.func77, Tryz.ntmps77
      go_wp2_with (go_at_call 79; refine (C1.out _).mono ?_; rintro e w' ⟨rfl, rfl⟩)
      go_ret
      exact ⟨ret_bool (by rw [HE.out]; exact HCP.out), rfl⟩
    · have hc0 : (0 : Int) < c := by simpa using hcp
      clear hcp
      go_enter Tryz.func77, Tryz.ntmps77
      go_wp2_with (go_at_call 79; refine (C1.out _).mono ?_; rintro e w' ⟨rfl, rfl⟩)
      go_ret
      exact ⟨ret_bool HE.out.symm, rfl⟩
  · have h8i : ¬ (s.size : Int) ≤ 8 := by omega
    have HE := Lib.hid (show okS s = false by unfold okS; rw [decide_eq_false h8, Bool.false_and])
    clear h8 hcp
    go_enter Tryz.func77, Tryz.ntmps77
    go_wp2
    go_ret
    exact ⟨ret_bool HE.out.symm, rfl⟩

end Go.Proofs.YtpnhjpplfjamkaaGreatDoor

/-! Texts joined, plain. -/
namespace Go.Proofs.YtpnhjpplfjamkaaGreatDoor
open Go Go.RowKit

/-- Texts joined. -/
def joinS (l : List ByteArray) : ByteArray := ofL (joinP (l.map bs))

theorem joinP_len (m : Nat) (ps : List (List UInt8)) (h : ∀ p ∈ ps, p.length ≤ m) : (joinP ps).length ≤ (m + 1) * ps.length := by
  induction ps with
  | nil => simp [joinP_nil]
  | cons p r ih =>
    have hp := h p (by simp)
    cases r with
    | nil => rw [joinP_one]; simp; omega
    | cons q t =>
      have hi := ih (fun x hx => h x (List.mem_cons_of_mem _ hx))
      rw [joinP_cons _ (by simp), List.length_append, List.length_cons]
      show p.length + ((joinP (q :: t)).length + 1) ≤ (m + 1) * ((q :: t).length + 1)
      rw [Nat.mul_succ]
      omega
theorem map_bs_ofL (ps : List (List UInt8)) : (ps.map ofL).map bs = ps := by
  rw [List.map_map]
  conv => rhs; rw [← List.map_id ps]
  exact List.map_congr_left (fun x _ => bs_ofL x)
theorem join_split (s : ByteArray) : joinS (splS s) = s := by
  unfold joinS splS
  rw [map_bs_ofL, joinP_spl, ofL_bs]
theorem join_single (s : ByteArray) : joinS [s] = s := by
  show ofL (joinP [bs s]) = s
  rw [joinP_one, ofL_bs]

end Go.Proofs.YtpnhjpplfjamkaaGreatDoor

/-! The document's own answers for package split: Join. -/
namespace Go.Proofs.YtpnhjpplfjamkaaGreatDoor
open Go Go.RowKit

theorem joinS_snoc (l : List ByteArray) (h : l ≠ []) (p : ByteArray) : joinS (l ++ [p]) = joinS l ++ ⟨#[45]⟩ ++ p := by
  apply ofL_ext
  unfold joinS
  rw [bs_glue, bs_ofL, bs_ofL, List.map_append, List.map_cons, List.map_nil, joinP_snoc (fun e => h (List.map_eq_nil_iff.1 e))]
theorem joinS_size (m : Nat) (l : List ByteArray) (h : ∀ p ∈ l, p.size ≤ m) : (joinS l).size ≤ (m + 1) * l.length := by
  unfold joinS
  rw [size_ofL]
  have := joinP_len m (l.map bs) (fun p hp => by obtain ⟨q, hq, rfl⟩ := List.mem_map.1 hp; rw [size_bs]; exact h q hq)
  rwa [List.length_map] at this

set_option maxRecDepth 100000 in
set_option maxHeartbeats 4000000 in
theorem join_big (g n cap : Nat) (l : List ByteArray) (w : World) (hn : n ≤ l.length) (hl : l.length ≤ 20003) (hp : ∀ p ∈ l, p.size ≤ 1048576) (hc : ∀ i p, l[i]? = some p → w.cell? ⟨g, i, none⟩ = some (.string p)) :
    Calls Tryz.prog 19 #[.slice (some ⟨g, 0, none⟩) n cap] w fun e w' => e = .returned (.string (joinS (l.take n))) ∧ w = w' := by
  have HC := Lib.hid hc
  have HP := Lib.hid hp
  clear hc hp
  go_enter Tryz.func19, Tryz.ntmps19
  go_wp2
  go_loop [3, 4] (fun t i => ∃ k : Nat, k ≤ n ∧ i = .int .i64 k ∧ t = .string (joinS (l.take k))) (fun _ i => n - (intOf i).toNat)
  case atStart => exact ⟨0, Nat.zero_le _, rfl, rfl⟩
  case round =>
    obtain ⟨k, hk, rfl, rfl⟩ := hrel
    rcases Nat.lt_or_ge k n with hlt | hge
    · have hkl : k < l.length := by omega
      obtain ⟨p, hp⟩ : ∃ p, l[k] = p := ⟨_, rfl⟩
      have hck := HC.out k p (by rw [List.getElem?_eq_getElem hkl, hp])
      have hps : p.size ≤ 1048576 := HP.out p (by rw [← hp]; exact List.getElem_mem _)
      have hjs : (joinS (l.take k)).size ≤ 20974685731 := by
        have := joinS_size 1048576 (l.take k) (fun q hq => HP.out q (List.mem_of_mem_take hq))
        have hlen : (l.take k).length ≤ 20003 := by rw [List.length_take]; omega
        omega
      have htk : l.take (k + 1) = l.take k ++ [p] := by rw [List.take_succ_eq_append_getElem hkl, hp]
      have hki : (k : Int) < (n : Int) := by omega
      have hk0 : (0 : Int) ≤ (k : Int) := by omega
      rcases k with _ | k
      · have HS := Lib.hid (show joinS (l.take (0 + 1)) = p by rw [htk]; exact join_single p)
        have HZ := Lib.hid (show joinS (l.take 0) = ⟨#[]⟩ from rfl)
        rw [HZ.out]
        clear hp htk hjs
        go_wp2
        go_round
        case rel => exact ⟨1, by omega, rfl, by rw [HS.out]; first | rfl | (congr 1; apply ofL_ext; simp [bs])⟩
        case measure => simp [intOf]; omega
      · have HS := Lib.hid (show joinS (l.take (k + 1 + 1)) = joinS (l.take (k + 1)) ++ ⟨#[45]⟩ ++ p by
          rw [htk, joinS_snoc _ (fun e => by have h := congrArg List.length e; rw [List.length_take, Nat.min_eq_left (by omega)] at h; simp at h)])
        obtain ⟨t, ht⟩ : ∃ t, joinS (l.take (k + 1)) = t := ⟨_, rfl⟩
        rw [ht] at hjs HS ⊢
        clear hp htk ht
        go_wp2
        go_round
        case rel => exact ⟨k + 1 + 1, by omega, by go_num, by rw [HS.out]⟩
        case measure => simp [intOf]; omega
    · obtain rfl : k = n := by omega
      go_wp2
      go_ret
      exact ⟨rfl, rfl⟩
end Go.Proofs.YtpnhjpplfjamkaaGreatDoor
