/-
  The document's own answers for package split: Each, Split.
-/
import Derived.Test.YtajdfckppnedjaaDKit
import Derived.WideShapes
namespace Go.Proofs.Ytajdfckppnedjaa
open Go Go.RowKit

def pcells (l : List (Nat × ByteArray)) : List Value := l.flatMap fun x => [.int .i64 (x.1 : Int), .string x.2]
theorem pcells_append (a b : List (Nat × ByteArray)) : pcells (a ++ b) = pcells a ++ pcells b := by simp [pcells]
theorem pcells_length (l : List (Nat × ByteArray)) : (pcells l).length = l.length * 2 := by
  induction l with
  | nil => rfl
  | cons x r ih => simp [pcells] at ih ⊢; omega
theorem pcells_get {l : List (Nat × ByteArray)} {i : Nat} {x : Nat × ByteArray} (h : l[i]? = some x) : (pcells l)[i * 2]? = some (.int .i64 (x.1 : Int)) ∧ (pcells l)[i * 2 + 1]? = some (.string x.2) := by
  induction l generalizing i with
  | nil => simp at h
  | cons y r ih =>
    have e : pcells (y :: r) = [.int .i64 (y.1 : Int), .string y.2] ++ pcells r := rfl
    cases i with
    | zero => simp at h; subst h; rw [e]; simp
    | succ i =>
      simp at h
      obtain ⟨h1, h2⟩ := ih h
      rw [e]
      constructor
      · rw [List.getElem?_append_right (by simp; omega)]; simp; rw [show (i + 1) * 2 - 2 = i * 2 by omega]; exact h1
      · rw [List.getElem?_append_right (by simp; omega)]; simp; rw [show (i + 1) * 2 - 1 = i * 2 + 1 by omega]; exact h2
theorem pieceInfo : (Try.prog.info? 57).map (fun i => (i.zero, i.size, i.bytes)) = some (some (.agg #[.int .i64 0, .string ByteArray.empty]), 2, 24) := by kernel_rfl

/-- What the rounds of the document's Each keep. -/
def EaR (s : ByteArray) (k a : Nat) (pre : List (Nat × ByteArray)) : Prop :=
  (k ≤ s.size ∧ a ≤ k ∧ pieces s = pre ++ placed a (spl ((bs s).drop a)) ∧ (45 : UInt8) ∉ ((bs s).take k).drop a) ∨ (k = s.size + 1 ∧ pieces s = pre)
theorem EaR.start (s : ByteArray) : EaR s 0 0 [] := .inl ⟨Nat.zero_le _, Nat.le_refl _, rfl, by simp⟩
theorem EaR.pass {s : ByteArray} {k a : Nat} {pre : List (Nat × ByteArray)} (h : EaR s k a pre) (hk : k < s.size) (hc : s[k] ≠ 45) : EaR s (k + 1) a pre := by
  rcases h with ⟨_, h2, h3, h4⟩ | ⟨h1, _⟩
  · refine .inl ⟨hk, by omega, h3, ?_⟩
    rw [bs_take_succ s k hk, List.drop_append_of_le_length (by rw [List.length_take, size_bs]; omega), List.mem_append, not_or]
    exact ⟨h4, by simpa using fun e => hc e.symm⟩
  · omega
theorem drop_split (s : ByteArray) (k a : Nat) (hk : k < s.size) (ha : a ≤ k) (hc : s[k] = 45) : (bs s).drop a = ((bs s).take k).drop a ++ 45 :: (bs s).drop (k + 1) := by
  have e : bs s = (bs s).take k ++ 45 :: (bs s).drop (k + 1) := by
    have hk' : k < (bs s).length := by rw [size_bs]; exact hk
    have hg : (bs s)[k] = 45 := by
      have := bs_get s k hk
      rw [List.getElem?_eq_getElem hk'] at this
      rw [Option.some.inj this, hc]
    conv => lhs; rw [← List.take_append_drop k (bs s), List.drop_eq_getElem_cons hk', hg]
  conv => lhs; rw [e]
  rw [List.drop_append_of_le_length (by rw [List.length_take, size_bs]; omega)]
theorem extract_take (s : ByteArray) (a k : Nat) : s.extract a k = ofL (((bs s).take k).drop a) := by
  apply ofL_ext
  rw [bs_ofL, bs_extract, List.drop_take]
theorem EaR.put {s : ByteArray} {k a : Nat} {pre : List (Nat × ByteArray)} (h : EaR s k a pre) (hk : k < s.size) (hc : s[k] = 45) : EaR s (k + 1) (k + 1) (pre ++ [(a, s.extract a k)]) := by
  rcases h with ⟨_, h2, h3, h4⟩ | ⟨h1, _⟩
  · refine .inl ⟨hk, Nat.le_refl _, ?_, by rw [List.drop_of_length_le (by rw [List.length_take]; omega)]; simp⟩
    rw [h3, drop_split s k a hk h2 hc, spl_app, spl_plain h4, List.append_assoc]
    have hl : a + (((bs s).take k).drop a).length + 1 = k + 1 := by rw [List.length_drop, List.length_take, size_bs]; omega
    show pre ++ ((a, ofL (((bs s).take k).drop a)) :: placed (a + (((bs s).take k).drop a).length + 1) (spl ((bs s).drop (k + 1)))) = _
    rw [hl, extract_take]; rfl
  · omega
theorem EaR.last {s : ByteArray} {a : Nat} {pre : List (Nat × ByteArray)} (h : EaR s s.size a pre) : EaR s (s.size + 1) (s.size + 1) (pre ++ [(a, s.extract a s.size)]) := by
  rcases h with ⟨_, h2, h3, h4⟩ | ⟨h1, _⟩
  · refine .inr ⟨rfl, ?_⟩
    rw [List.take_of_length_le (by rw [size_bs]; exact Nat.le_refl _)] at h4
    rw [h3, spl_plain h4, drop_extract]; rfl
  · omega
theorem EaR.len {s : ByteArray} {k a : Nat} {pre : List (Nat × ByteArray)} (h : EaR s k a pre) : pre.length ≤ s.size + 1 := by
  have h1 : pre.length ≤ (pieces s).length := by
    rcases h with ⟨_, _, h3, _⟩ | ⟨_, h3⟩
    · rw [h3, List.length_append]; omega
    · rw [h3]; exact Nat.le_refl _
  have := splS_le s
  rw [pieces_length] at h1
  omega
theorem EaR.le {s : ByteArray} {k a : Nat} {pre : List (Nat × ByteArray)} (h : EaR s k a pre) (hk : k ≤ s.size) : a ≤ k := by
  rcases h with ⟨_, h2, _⟩ | ⟨h1, _⟩ <;> omega
theorem EaR.fin {s : ByteArray} {a : Nat} {pre : List (Nat × ByteArray)} (h : EaR s (s.size + 1) a pre) : pieces s = pre := by
  rcases h with ⟨h1, _⟩ | ⟨_, h⟩
  · omega
  · exact h

theorem cell_pair (w : World) (x y : Value) (t : TypeId) : ∀ j u, [x, y][j]? = some u → (w.alloc (.cells #[x, y] t)).cell? ((⟨w.heap.size, 0, none⟩ : Addr).add j) = some u := by
  intro j u h
  rw [Go.WideShapes.add_plain, Nat.zero_add]
  rcases j with _ | _ | j
  · simp at h; subst h; rw [World.cell?_alloc_at _ _ _ _ (by simp)]; rfl
  · simp at h; subst h; rw [World.cell?_alloc_at _ _ _ _ (by simp)]; rfl
  · simp at h

set_option maxRecDepth 100000 in
set_option maxHeartbeats 4000000 in
theorem each_ref (s : ByteArray) (w : World) (hs : s.size ≤ 1048576) :
    Calls Try.prog 36 #[.string s] w fun e w' => ∃ u, e = .returned u ∧ w'.ownsRow w.heap.size 57 2 u (pieces s).length (pcells (pieces s)) ∧ Below w.heap.size w w' := by
  obtain ⟨i0, hi, hz0, hz1, hz2⟩ := info_parts pieceInfo
  go_enter Try.func36, Try.ntmps36
  go_wp2
  go_loopw [3, 4, 5] (fun o av i wr => ∃ (k a : Nat) (pre : List (Nat × ByteArray)), k ≤ s.size + 1 ∧ i = .int .i64 k ∧ av = .int .i64 a ∧ Hid (EaR s k a pre) ∧ wr.ownsRow w.heap.size 57 2 o pre.length (pcells pre) ∧ Below w.heap.size w wr) (fun _ _ i _ => s.size + 2 - (intOf i).toNat)
  case atStart => exact ⟨0, 0, [], Nat.zero_le _, rfl, rfl, EaR.start s, World.ownsRow_nil _ _ _ _, Below.refl _ _⟩
  case round =>
    obtain ⟨k, a, pre, hk, rfl, rfl, HE, hown, hB⟩ := hrel
    have hpl := HE.out.len
    have hsz : w.heap.size ≤ wr.heap.size := hB.size
    have HO := Lib.hid hown
    rcases Nat.lt_or_ge k s.size with hlt | hge
    · have hle := HE.out.le (by omega)
      have hki : (k : Int) ≤ (s.size : Int) := by omega
      have hke : ((k : Int) == (s.size : Int)) = false := by simp; omega
      have hk0 : (0 : Int) ≤ (k : Int) := by omega
      have hka : (a : Int) ≤ (k : Int) := by omega
      have ha0 : (0 : Int) ≤ (a : Int) := by omega
      by_cases hc : s[k] = 45
      · have HS := Lib.hid (HE.out.put hlt hc)
        have e1 := (mark_true hc).1
        clear hc hown
        go_wp2_with (at_builtin; refine wpList_append_own _ rfl _ _ 54 rfl w.heap.size 57 i0 (.agg #[.int .i64 0, .string ByteArray.empty]) 2 24 Try.underlying54 hi hz0 hz1 hz2 rfl (by decide) _ _ _ rfl (HO.out.alloc _) ⟨wr.heap.size, 0, none⟩ 1 1 [.int .i64 (a : Int), .string (s.extract a k)] rfl rfl (cell_pair _ _ _ _) (by intro u hu; simp at hu; rcases hu with rfl | rfl <;> rfl) (by unfold maxLen; omega) (by omega) (by simp; omega) ?_; intro v' w1 hown1 hgrow _)
        go_roundw
        case rel => exact ⟨k + 1, k + 1, pre ++ [(a, s.extract a k)], by omega, by go_num, by go_num, HS, by rw [List.length_append, pcells_append]; exact hown1, (hB.alloc hB.size _).grown hgrow (by simp; omega) (fun r e => (HO.out.lt r e).1)⟩
        case measure => simp [intOf]; omega
      · have HS := Lib.hid (HE.out.pass hlt hc)
        have e1 := (mark_false hc).1
        clear hc hown
        go_wp2
        go_roundw
        case rel => exact ⟨k + 1, a, pre, by omega, by go_num, rfl, HS, HO.out, hB⟩
        case measure => simp [intOf]; omega
    · rcases Nat.lt_or_ge s.size k with hgt | hle2
      · obtain rfl : k = s.size + 1 := by omega
        have HP := Lib.hid HE.out.fin
        have hki : ¬ ((s.size : Int) + 1 ≤ (s.size : Int)) := by omega
        clear HE hpl hown
        go_wp2
        go_ret
        exact ⟨_, rfl, by rw [HP.out]; exact HO.out, hB⟩
      · obtain rfl : k = s.size := by omega
        have hle := HE.out.le (Nat.le_refl _)
        have HS := Lib.hid HE.out.last
        have ha0 : (0 : Int) ≤ (a : Int) := by omega
        have hka : (a : Int) ≤ (s.size : Int) := by omega
        clear hown
        go_wp2_with (at_builtin; refine wpList_append_own _ rfl _ _ 54 rfl w.heap.size 57 i0 (.agg #[.int .i64 0, .string ByteArray.empty]) 2 24 Try.underlying54 hi hz0 hz1 hz2 rfl (by decide) _ _ _ rfl (HO.out.alloc _) ⟨wr.heap.size, 0, none⟩ 1 1 [.int .i64 (a : Int), .string (s.extract a s.size)] rfl rfl (cell_pair _ _ _ _) (by intro u hu; simp at hu; rcases hu with rfl | rfl <;> rfl) (by unfold maxLen; omega) (by omega) (by simp; omega) ?_; intro v' w1 hown1 hgrow _)
        go_roundw
        case rel => exact ⟨s.size + 1, s.size + 1, pre ++ [(a, s.extract a s.size)], by omega, by go_num, by go_num, HS, by rw [List.length_append, pcells_append]; exact hown1, (hB.alloc hB.size _).grown hgrow (by simp; omega) (fun r e => (HO.out.lt r e).1)⟩
        case measure => simp [intOf]
end Go.Proofs.Ytajdfckppnedjaa
