/-
  Package ascii: one byte: marks, small, large, and the document's own lower, upper, letter and digit. Package ascii: each; Lower, Upper, Title; a row of bytes made and filled, turned into a text. Package ascii: how texts stand: cmp.Compare, compare, Compare, Same. Package ascii: what a text has: all, Alpha, Digit, Alnum, Class. The document's own answers for package ascii: Lower, Upper, Title, Class, Compare. The statements' own: awake and short. What the laws of layer 2 share: contracts that go on from the start of the law; what a class says.
-/
import Derived.Test.YthjfcfhibdpbnaaProg
import Derived.Test.YthjfcfhibdpbnaaBMaths
import Derived.WalkKit
import Derived.Lib.Hide
import Derived.Outline
import Derived.Deep.QuietTactic
import Derived.BigQuiet
import Derived.OwnWalk
import Derived.WalkSmall
import Derived.Carry
import Derived.Maps.AppendAt
import Derived.Deep.RegionHeld3
/-! Package ascii: one byte: marks, small, large, and the document's own lower, upper, letter and digit. -/
namespace Go.Proofs.Ythjfcfhibdpbnaa
open Go Go.RowKit

theorem low_int_U (c : UInt8) (h1 : 65 ≤ c.toNat) (h2 : c.toNat ≤ 90) : ((lowB c).toNat : Int) = c.toNat + 32 := by
  have := low_nat_U c ((isU_iff c).2 ⟨h1, h2⟩); omega
theorem low_int (c : UInt8) (h : c.toNat < 65 ∨ 90 < c.toNat) : lowB c = c := low_nat c (by
  rcases hh : isU c with _ | _
  · rfl
  · have := (isU_iff c).1 hh; omega)
theorem up_int_L (c : UInt8) (h1 : 97 ≤ c.toNat) (h2 : c.toNat ≤ 122) : ((upB c).toNat : Int) = c.toNat - 32 := by
  have := up_nat_L c ((isL_iff c).2 ⟨h1, h2⟩); omega
theorem up_int (c : UInt8) (h : c.toNat < 97 ∨ 122 < c.toNat) : upB c = c := up_nat c (by
  rcases hh : isL c with _ | _
  · rfl
  · have := (isL_iff c).1 hh; omega)
theorem ret_bool {a b : Bool} (h : a = b) : Ending.returned (.bool a) = .returned (.bool b) := by rw [h]
theorem ret_int {k : IntKind} {a b : Int} (h : a = b) : Ending.returned (.int k a) = .returned (.int k b) := by rw [h]

set_option maxRecDepth 100000 in
theorem lower_any (c : UInt8) (w : World) :
    Calls Try.prog 63 #[.int .u8 c.toNat] w fun e w' => e = .returned (.int .u8 (lowB c).toNat) ∧ w = w' := by
  by_cases h1 : 65 ≤ c.toNat
  · by_cases h2 : c.toNat ≤ 90
    · have HE := Lib.hid (low_int_U c h1 h2)
      go_enter Try.func63, Try.ntmps63
      go_wp2
      go_ret
      exact ⟨ret_int (by rw [HE.out]; omega), rfl⟩
    · have HE := Lib.hid (low_int c (by omega))
      go_enter Try.func63, Try.ntmps63
      go_wp2
      go_ret
      rw [HE.out]
      exact ⟨rfl, rfl⟩
  · have HE := Lib.hid (low_int c (by omega))
    go_enter Try.func63, Try.ntmps63
    go_wp2
    go_ret
    rw [HE.out]
    exact ⟨rfl, rfl⟩
set_option maxRecDepth 100000 in
theorem upper_any (c : UInt8) (w : World) :
    Calls Try.prog 62 #[.int .u8 c.toNat] w fun e w' => e = .returned (.int .u8 (upB c).toNat) ∧ w = w' := by
  by_cases h1 : 97 ≤ c.toNat
  · by_cases h2 : c.toNat ≤ 122
    · have HE := Lib.hid (up_int_L c h1 h2)
      go_enter Try.func62, Try.ntmps62
      go_wp2
      go_ret
      exact ⟨ret_int (by rw [HE.out]; omega), rfl⟩
    · have HE := Lib.hid (up_int c (by omega))
      go_enter Try.func62, Try.ntmps62
      go_wp2
      go_ret
      rw [HE.out]
      exact ⟨rfl, rfl⟩
  · have HE := Lib.hid (up_int c (by omega))
    go_enter Try.func62, Try.ntmps62
    go_wp2
    go_ret
    rw [HE.out]
    exact ⟨rfl, rfl⟩

end Go.Proofs.Ythjfcfhibdpbnaa

/-! Package ascii: each; Lower, Upper, Title; a row of bytes made and filled, turned into a text. -/
namespace Go.Proofs.Ythjfcfhibdpbnaa
open Go Go.RowKit

theorem byteInfo : (Try.prog.info? 5).map (fun i => (i.zero, i.size, i.bytes)) = some (some (.int .u8 0), 1, 1) := by kernel_rfl

/-- Bytes as cells. -/
def bcells (l : List UInt8) : List Value := l.map fun c => .int .u8 (c.toNat : Int)
theorem length_bcells (l : List UInt8) : (bcells l).length = l.length := by simp [bcells]
/-- The row after k rounds. -/
def eachL (g : Nat → UInt8 → UInt8) (l : List UInt8) (k : Nat) : List UInt8 := (l.take k).mapIdx g ++ List.replicate (l.length - k) 0
theorem eachL_zero (g : Nat → UInt8 → UInt8) (l : List UInt8) : eachL g l 0 = List.replicate l.length 0 := by simp [eachL]
theorem eachL_all (g : Nat → UInt8 → UInt8) (l : List UInt8) : eachL g l l.length = l.mapIdx g := by simp [eachL]
theorem length_eachL (g : Nat → UInt8 → UInt8) (l : List UInt8) (k : Nat) (h : k ≤ l.length) : (eachL g l k).length = l.length := by
  simp [eachL, List.length_take]; omega
theorem eachL_succ (g : Nat → UInt8 → UInt8) (l : List UInt8) (k : Nat) (h : k < l.length) : (eachL g l k).set k (g k l[k]) = eachL g l (k + 1) := by
  apply List.ext_getElem?
  intro j
  unfold eachL
  have hk : ((l.take k).mapIdx g).length = k := by simp [List.length_take]; omega
  have hk1 : ((l.take (k + 1)).mapIdx g).length = k + 1 := by simp [List.length_take]; omega
  rw [List.getElem?_set]
  by_cases hj : k = j
  · subst hj
    rw [if_pos rfl, if_pos (by rw [List.length_append, hk, List.length_replicate]; omega), List.getElem?_append_left (by omega)]
    simp [h]
  · rw [if_neg hj]
    by_cases hjk : j < k
    · rw [List.getElem?_append_left (by omega), List.getElem?_append_left (by omega)]
      simp [hjk, show j < k + 1 by omega]
    · rw [List.getElem?_append_right (by omega), List.getElem?_append_right (by omega), hk, hk1]
      simp only [List.getElem?_replicate]
      by_cases hjl : j < l.length
      · rw [if_pos (by omega), if_pos (by omega)]
      · rw [if_neg (by omega), if_neg (by omega)]
theorem bcells_set (l : List UInt8) (k : Nat) (c : UInt8) : (bcells l).set k (.int .u8 (c.toNat : Int)) = bcells (l.set k c) := by
  unfold bcells; rw [List.map_set]
theorem made_bcells (n : Nat) : (madeCells (Value.int .u8 0).cells (n * 1)).toList = bcells (List.replicate n 0) := by
  rw [Nat.mul_one]
  show (madeCells #[Value.int .u8 0] n).toList = _
  rw [toList_madeCells_one]
  simp [bcells]

/-- What each's rounds keep. -/
def EaI (g : Nat → UInt8 → UInt8) (s : ByteArray) (w : World) (k : Nat) (wr : World) : Prop :=
  wr.ownsRow w.heap.size 5 1 (.slice (some ⟨w.heap.size, 0, none⟩) s.size s.size) s.size (bcells (eachL g (bs s) k)) ∧ Below w.heap.size w wr
theorem EaI.start {g : Nat → UInt8 → UInt8} {s : ByteArray} {w w1 : World} (h : w1.ownsRow w.heap.size 5 1 (.slice (some ⟨w.heap.size, 0, none⟩) s.size s.size) s.size (madeCells (Value.int .u8 0).cells (s.size * 1)).toList) (hg : w.grownBy w1 none) : EaI g s w 0 w1 := by
  refine ⟨?_, (Below.refl _ w).grown hg (Nat.le_refl _) (fun _ h => by cases h)⟩
  rw [made_bcells] at h
  rw [eachL_zero, size_bs]
  exact h
theorem EaI.cell {g : Nat → UInt8 → UInt8} {s : ByteArray} {w wr : World} {k : Nat} (h : EaI g s w k wr) (hk : k < s.size) : (∃ v, wr.cell? ⟨w.heap.size, k, none⟩ = some v) ∧ wr.frozen? ⟨w.heap.size, k, none⟩ = false := by
  refine ⟨?_, h.1.frozenAt k⟩
  rw [h.1.cellAt k (by omega)]
  have hl : k < (bcells (eachL g (bs s) k)).length := by rw [length_bcells, length_eachL _ _ _ (by rw [size_bs]; omega), size_bs]; exact hk
  exact ⟨_, List.getElem?_eq_getElem hl⟩
theorem EaI.step {g : Nat → UInt8 → UInt8} {s : ByteArray} {w wr : World} {k : Nat} {c : UInt8} (h : EaI g s w k wr) (hk : k < s.size) (hc : c = g k s[k]) : EaI g s w (k + 1) (wr.setCell ⟨w.heap.size, k, none⟩ (.int .u8 (c.toNat : Int))) := by
  refine ⟨?_, h.2.setCell (p := ⟨w.heap.size, k, none⟩) (Nat.le_refl _) _⟩
  have h1 := (h.1.stored k (.int .u8 (c.toNat : Int))).1
  rw [bcells_set] at h1
  have hkl : k < (bs s).length := by rw [size_bs]; exact hk
  have he : (eachL g (bs s) k).set k c = eachL g (bs s) (k + 1) := by
    rw [hc]; exact eachL_succ g (bs s) k hkl
  rw [he] at h1
  exact h1
theorem EaI.conv {g : Nat → UInt8 → UInt8} {s : ByteArray} {w wr : World} (h : EaI g s w s.size wr) : (convert 94 9 (.slice (some ⟨w.heap.size, 0, none⟩) s.size s.size)).run Try.prog wr = .ok (.string (ofL ((bs s).mapIdx g))) wr := by
  have hl : ((bs s).mapIdx g).length = s.size := by rw [List.length_mapIdx, size_bs]
  have h1 := h.1
  rw [show eachL g (bs s) s.size = (bs s).mapIdx g by rw [← size_bs]; exact eachL_all _ _] at h1
  have := run_convert_bytes_back (P := Try.prog) wr 94 9 5 ⟨w.heap.size, 0, none⟩ s.size ((bs s).mapIdx g) Try.underlying94 Try.underlying5 Try.underlying9 (fun j hj => by
    have e : ((⟨w.heap.size, 0, none⟩ : Addr).add j) = ⟨w.heap.size, j, none⟩ := by simp [Addr.add, eq_comm]
    rw [e, h1.cellAt j (by omega)]
    unfold bcells
    rw [List.getElem?_map, List.getElem?_eq_getElem hj]
    rfl)
  rw [hl] at this
  exact this

theorem ret_string {a b : ByteArray} (h : a = b) : Ending.returned (.string a) = .returned (.string b) := by rw [h]
end Go.Proofs.Ythjfcfhibdpbnaa

/-! Package ascii: how texts stand: cmp.Compare, compare, Compare, Same. -/
namespace Go.Proofs.Ythjfcfhibdpbnaa
open Go Go.RowKit

def sgn (a b : Int) : Int := if a < b then -1 else if b < a then 1 else 0

/- The comparison, place by place. -/
theorem cmpL_cons (x y : UInt8) (a b : List UInt8) : cmpL (x :: a) (y :: b) = if sgn (x.toNat : Int) y.toNat ≠ 0 then sgn (x.toNat : Int) y.toNat else cmpL a b := by
  by_cases h1 : x.toNat < y.toNat
  · have e : sgn (x.toNat : Int) y.toNat = -1 := by unfold sgn; rw [if_pos (by omega)]
    rw [e]; simp [cmpL, h1]
  · by_cases h2 : y.toNat < x.toNat
    · have e : sgn (x.toNat : Int) y.toNat = 1 := by unfold sgn; rw [if_neg (by omega), if_pos (by omega)]
      rw [e]; simp [cmpL, h1, h2]
    · have e : sgn (x.toNat : Int) y.toNat = 0 := by unfold sgn; rw [if_neg (by omega), if_neg (by omega)]
      rw [e]; simp [cmpL, h1, h2]
theorem cmpL_drop (a b : List UInt8) (k : Nat) (ha : k < a.length) (hb : k < b.length) :
    cmpL (a.drop k) (b.drop k) = if sgn (a[k].toNat : Int) b[k].toNat ≠ 0 then sgn (a[k].toNat : Int) b[k].toNat else cmpL (a.drop (k + 1)) (b.drop (k + 1)) := by
  rw [List.drop_eq_getElem_cons ha, List.drop_eq_getElem_cons hb, cmpL_cons]
theorem cmpL_nil_l {a b : List UInt8} (ha : a.length = 0) (hb : 0 < b.length) : cmpL a b = -1 := by
  cases a with
  | cons => simp at ha
  | nil => cases b with
    | nil => simp at hb
    | cons => rfl
theorem cmpL_nil_r {a b : List UInt8} (ha : 0 < a.length) (hb : b.length = 0) : cmpL a b = 1 := by
  cases b with
  | cons => simp at hb
  | nil => cases a with
    | nil => simp at ha
    | cons => rfl
theorem cmpL_nil {a b : List UInt8} (ha : a.length = 0) (hb : b.length = 0) : cmpL a b = 0 := by
  cases a with
  | cons => simp at ha
  | nil => cases b with
    | nil => rfl
    | cons => simp at hb
theorem cmpL_end (a b : List UInt8) (k : Nat) (h : k = min a.length b.length) : cmpL (a.drop k) (b.drop k) = sgn (a.length : Int) b.length := by
  unfold sgn
  rcases Nat.lt_trichotomy a.length b.length with h' | h' | h'
  · rw [if_pos (by omega), cmpL_nil_l (by rw [List.length_drop]; omega) (by rw [List.length_drop]; omega)]
  · rw [if_neg (by omega), if_neg (by omega), cmpL_nil (by rw [List.length_drop]; omega) (by rw [List.length_drop]; omega)]
  · rw [if_neg (by omega), if_pos (by omega), cmpL_nil_r (by rw [List.length_drop]; omega) (by rw [List.length_drop]; omega)]

/-- What the rounds of compare keep. -/
def CpI (a b : ByteArray) (k : Nat) : Prop := cmpS a b = cmpL (((bs a).map lowB).drop k) (((bs b).map lowB).drop k)
theorem CpI.step {a b : ByteArray} {k : Nat} (h : CpI a b k) (ha : k < a.size) (hb : k < b.size) : 
    (sgn ((lowB a[k]).toNat : Int) (lowB b[k]).toNat ≠ 0 → cmpS a b = sgn ((lowB a[k]).toNat : Int) (lowB b[k]).toNat) ∧ (sgn ((lowB a[k]).toNat : Int) (lowB b[k]).toNat = 0 → CpI a b (k + 1)) := by
  unfold CpI at *
  have := cmpL_drop ((bs a).map lowB) ((bs b).map lowB) k (by simpa [size_bs] using ha) (by simpa [size_bs] using hb)
  simp only [List.getElem_map] at this
  have e1 : (bs a)[k]'(by simpa [size_bs] using ha) = a[k] := rfl
  have e2 : (bs b)[k]'(by simpa [size_bs] using hb) = b[k] := rfl
  rw [e1, e2] at this
  rw [this] at h
  constructor
  · intro hn; rw [if_pos hn] at h; exact h
  · intro hn; rw [if_neg (by simpa using hn)] at h; exact h
theorem CpI.fin {a b : ByteArray} {k : Nat} (h : CpI a b k) (hk : k = min a.size b.size) : cmpS a b = sgn (a.size : Int) b.size := by
  unfold CpI at h
  rw [h, cmpL_end _ _ k (by simpa [size_bs] using hk)]
  simp

end Go.Proofs.Ythjfcfhibdpbnaa

/-! Package ascii: what a text has: all, Alpha, Digit, Alnum, Class. -/
namespace Go.Proofs.Ythjfcfhibdpbnaa
open Go Go.RowKit

end Go.Proofs.Ythjfcfhibdpbnaa

/-! The document's own answers for package ascii: Lower, Upper, Title, Class, Compare. -/
namespace Go.Proofs.Ythjfcfhibdpbnaa
open Go Go.RowKit

theorem bs_take_succ (s : ByteArray) (k : Nat) (h : k < s.size) : (bs s).take (k + 1) = (bs s).take k ++ [s[k]] := by
  rw [List.take_succ_eq_append_getElem (by simpa [size_bs] using h)]; rfl
theorem owned_cases {w : World} {B : Nat} {e : TypeId} {sz : Nat} {v : Value} {n : Nat} {xs : List Value} (h : w.ownsRow B e sz v n xs) : (v = .slice none 0 0 ∧ n = 0) ∨ ∃ g cap, v = .slice (some ⟨g, 0, none⟩) n cap := by
  rcases h.2 with ⟨hv, hn⟩ | ⟨g, cap, _, hv, _⟩
  · exact .inl ⟨hv, hn⟩
  · exact .inr ⟨g, cap, hv⟩
/-- A row of bytes of the call's own, turned into a text. -/
theorem conv_owned {w : World} {B : Nat} {v : Value} (l : List UInt8) (h : w.ownsRow B 5 1 v l.length (bcells l)) : (convert 94 9 v).run Try.prog w = .ok (.string (ofL l)) w := by
  rcases owned_cases h with ⟨rfl, h0⟩ | ⟨g, cap, rfl⟩
  · obtain rfl : l = [] := List.eq_nil_of_length_eq_zero h0
    rw [run_convert_bytes_string w 94 9 5 none 0 0 Try.underlying94 Try.underlying5 Try.underlying9]
    rfl
  · exact run_convert_bytes_back (P := Try.prog) w 94 9 5 ⟨g, 0, none⟩ cap l Try.underlying94 Try.underlying5 Try.underlying9 (fun j hj => by
      have e : ((⟨g, 0, none⟩ : Addr).add j) = ⟨g, j, none⟩ := by simp [Addr.add, eq_comm]
      rw [e, h.cellAt j (by omega)]
      unfold bcells
      rw [List.getElem?_map, List.getElem?_eq_getElem hj]
      rfl)
theorem bcells_append (a b : List UInt8) : bcells (a ++ b) = bcells a ++ bcells b := by simp [bcells]

/-- What the rounds of the document's Lower and Upper keep. -/
def RfI (f : UInt8 → UInt8) (s : ByteArray) (w : World) (k : Nat) (v : Value) (wr : World) : Prop :=
  wr.ownsRow w.heap.size 5 1 v k (bcells (((bs s).take k).map f)) ∧ Below w.heap.size w wr
theorem RfI.start {f : UInt8 → UInt8} {s : ByteArray} {w : World} : RfI f s w 0 (.slice none 0 0) w := by
  refine ⟨?_, Below.refl _ _⟩
  simpa [bcells] using World.ownsRow_nil w w.heap.size 5 1
theorem RfI.step {f : UInt8 → UInt8} {s : ByteArray} {w wr w1 : World} {k : Nat} {v v' : Value} {o : Obj} (h : RfI f s w k v wr) (hk : k < s.size)
    (h1 : w1.ownsRow w.heap.size 5 1 v' (k + 1) (bcells (((bs s).take k).map f) ++ [.int .u8 ((f s[k]).toNat : Int)])) (hg : (wr.alloc o).grownBy w1 v.ownBlock) : RfI f s w (k + 1) v' w1 := by
  have hB := h.2
  refine ⟨?_, ((hB.alloc hB.size o).grown hg (by simp; have := hB.size; omega) (fun r e => (h.1.lt r e).1))⟩
  rw [bs_take_succ s k hk, List.map_append, bcells_append]
  exact h1
theorem RfI.conv {f : UInt8 → UInt8} {s : ByteArray} {w wr : World} {v : Value} (h : RfI f s w s.size v wr) : (convert 94 9 v).run Try.prog wr = .ok (.string (ofL ((bs s).map f))) wr := by
  have h1 := h.1
  rw [List.take_of_length_le (by rw [size_bs]; exact Nat.le_refl _)] at h1
  refine conv_owned (B := w.heap.size) ((bs s).map f) ?_
  rw [List.length_map, size_bs]
  exact h1

set_option maxRecDepth 100000 in
set_option maxHeartbeats 800000 in
theorem lower_ref (s : ByteArray) (w : World) (hs : s.size ≤ 140737488351232) :
    Calls Try.prog 59 #[.string s] w fun e w' => e = .returned (.string (lowS s)) ∧ Below w.heap.size w w' := by
  obtain ⟨i0, hi, hz0, hz1, hz2⟩ := info_parts byteInfo
  go_enter Try.func59, Try.ntmps59
  go_wp2
  go_loopw [3, 4] (fun v i wr => ∃ k : Nat, k ≤ s.size ∧ i = .int .i64 k ∧ RfI lowB s w k v wr) (fun _ i _ => s.size - (intOf i).toNat)
  case atStart => exact ⟨0, Nat.zero_le _, rfl, RfI.start⟩
  case round =>
    obtain ⟨k, hk, rfl, HR⟩ := hrel
    by_cases hlt : k < s.size
    · obtain ⟨c, hc⟩ : ∃ c, lowB s[k] = c := ⟨_, rfl⟩
      have HC := Lib.hid hc
      clear hc
      have hsz : w.heap.size ≤ wr.heap.size := HR.2.size
      go_wp2_with (first | (go_at_call 63; refine (lower_any _ _).mono ?_; rintro e w' ⟨rfl, rfl⟩; rw [HC.out]) | (at_builtin; refine wpList_append_own _ rfl _ _ 94 rfl w.heap.size 5 i0 (.int .u8 0) 1 1 Try.underlying94 hi hz0 hz1 hz2 rfl (by decide) _ k _ rfl (HR.1.alloc _) ⟨wr.heap.size, 0, none⟩ 1 1 [.int .u8 (c.toNat : Int)] rfl rfl (cell_one_new _ _ _) (by intro u hu; simp at hu; subst hu; rfl) (by unfold maxLen; omega) (by omega) (by simp; omega) ?_; intro v' w1 hown1 hgrow _))
      go_roundw
      case rel => exact ⟨k + 1, by omega, by go_num, HR.step hlt (by rw [HC.out]; exact hown1) hgrow⟩
      case measure => simp [intOf]; omega
    · obtain rfl : k = s.size := by omega
      have hconv := HR.conv
      go_wp2
      go_ret
      exact ⟨rfl, HR.2⟩

set_option maxRecDepth 100000 in
set_option maxHeartbeats 800000 in
theorem upper_ref (s : ByteArray) (w : World) (hs : s.size ≤ 140737488351232) :
    Calls Try.prog 58 #[.string s] w fun e w' => e = .returned (.string (upS s)) ∧ Below w.heap.size w w' := by
  obtain ⟨i0, hi, hz0, hz1, hz2⟩ := info_parts byteInfo
  go_enter Try.func58, Try.ntmps58
  go_wp2
  go_loopw [3, 4] (fun v i wr => ∃ k : Nat, k ≤ s.size ∧ i = .int .i64 k ∧ RfI upB s w k v wr) (fun _ i _ => s.size - (intOf i).toNat)
  case atStart => exact ⟨0, Nat.zero_le _, rfl, RfI.start⟩
  case round =>
    obtain ⟨k, hk, rfl, HR⟩ := hrel
    by_cases hlt : k < s.size
    · obtain ⟨c, hc⟩ : ∃ c, upB s[k] = c := ⟨_, rfl⟩
      have HC := Lib.hid hc
      clear hc
      have hsz : w.heap.size ≤ wr.heap.size := HR.2.size
      go_wp2_with (first | (go_at_call 62; refine (upper_any _ _).mono ?_; rintro e w' ⟨rfl, rfl⟩; rw [HC.out]) | (at_builtin; refine wpList_append_own _ rfl _ _ 94 rfl w.heap.size 5 i0 (.int .u8 0) 1 1 Try.underlying94 hi hz0 hz1 hz2 rfl (by decide) _ k _ rfl (HR.1.alloc _) ⟨wr.heap.size, 0, none⟩ 1 1 [.int .u8 (c.toNat : Int)] rfl rfl (cell_one_new _ _ _) (by intro u hu; simp at hu; subst hu; rfl) (by unfold maxLen; omega) (by omega) (by simp; omega) ?_; intro v' w1 hown1 hgrow _))
      go_roundw
      case rel => exact ⟨k + 1, by omega, by go_num, HR.step hlt (by rw [HC.out]; exact hown1) hgrow⟩
      case measure => simp [intOf]; omega
    · obtain rfl : k = s.size := by omega
      have hconv := HR.conv
      go_wp2
      go_ret
      exact ⟨rfl, HR.2⟩

theorem ofL_append (a b : List UInt8) : ofL a ++ ofL b = ofL (a ++ b) := by
  apply ByteArray.ext
  simp [ofL]
theorem bs_extract (s : ByteArray) (a b : Nat) : bs (s.extract a b) = ((bs s).drop a).take (b - a) := by
  simp [bs, ByteArray.data_extract]
theorem title_parts (s : ByteArray) (h : 0 < s.size) : upS (s.extract 0 1) ++ lowS (s.extract 1 s.size) = titleS s := by
  unfold upS lowS titleS
  rw [ofL_append, bs_extract, bs_extract]
  congr 1
  have hl : 0 < (bs s).length := by rw [size_bs]; exact h
  generalize hb : bs s = l at *
  cases l with
  | nil => simp at hl
  | cons c r =>
    have hn : s.size = r.length + 1 := by rw [← size_bs, hb]; rfl
    simp [titleL, hn]

set_option maxRecDepth 100000 in
set_option maxHeartbeats 800000 in
theorem title_ref (s : ByteArray) (w : World) (hs : s.size ≤ 140737488351232) :
    Calls Try.prog 51 #[.string s] w fun e w' => e = .returned (.string (titleS s)) ∧ Below w.heap.size w w' := by
  by_cases h0 : 0 < s.size
  · have he : s.toList.isEmpty = false := by
      rw [ByteArray.toList_eq]
      have : 0 < s.data.toList.length := by rw [show s.data.toList.length = s.size from size_bs s]; exact h0
      cases hh : s.data.toList with
      | nil => rw [hh] at this; simp at this
      | cons => rfl
    have HT := Lib.hid (title_parts s h0)
    have h1 : 1 ≤ s.size := h0
    have hx1 : (s.extract 0 1).size ≤ 140737488351232 := by rw [ByteArray.size_extract]; omega
    have hx2 : (s.extract 1 s.size).size ≤ 140737488351232 := by rw [ByteArray.size_extract]; omega
    have U := Lib.hid (fun w5 (hb : Below w.heap.size w w5) => (upper_ref (s.extract 0 1) w5 hx1).mono (R' := fun e w6 => e = .returned (.string (upS (s.extract 0 1))) ∧ Below w.heap.size w w6) fun e w6 ⟨p, q⟩ => ⟨p, hb.trans (q.mono hb.size)⟩)
    have L := Lib.hid (fun w5 (hb : Below w.heap.size w w5) => (lower_ref (s.extract 1 s.size) w5 hx2).mono (R' := fun e w6 => e = .returned (.string (lowS (s.extract 1 s.size))) ∧ Below w.heap.size w w6) fun e w6 ⟨p, q⟩ => ⟨p, hb.trans (q.mono hb.size)⟩)
    have hB0 : Below w.heap.size w w := Below.refl _ _
    have hI : (1 : Int) ≤ (s.size : Int) := by omega
    have hsum : (upS (s.extract 0 1)).size + (lowS (s.extract 1 s.size)).size ≤ 9223372036854775807 := by rw [size_upS, size_lowS]; omega
    have hsun : ¬ (9223372036854775807 < (upS (s.extract 0 1)).size + (lowS (s.extract 1 s.size)).size) := by omega
    clear hx1 hx2
    go_enter Try.func51, Try.ntmps51
    go_wp2_with fail
    go_region_held3 (fun w' => Below w.heap.size w w') (first | assumption | exact Below.drew (by assumption))
      (first | (go_at_call 58; (with_reducible refine (U.out _ (by assumption)).mono ?_); rintro e w5 ⟨rfl, hb5⟩) | (go_at_call 59; (with_reducible refine (L.out _ (by assumption)).mono ?_); rintro e w5 ⟨rfl, hb5⟩))
    go_wp2
    go_ret
    exact ⟨ret_string HT.out, by assumption⟩
  · obtain rfl : s = ofL [] := by rw [← ofL_bs s, List.eq_nil_of_length_eq_zero (l := bs s) (by rw [size_bs]; omega)]
    have he : (ofL []).toList.isEmpty = true := by rw [ByteArray.toList_eq]; rfl
    go_enter Try.func51, Try.ntmps51
    go_wp2
    go_ret
    exact ⟨rfl, Below.refl _ _⟩

theorem empty_true {s : ByteArray} (h : s.size = 0) : s.toList.isEmpty = true := by
  obtain rfl : s = ofL [] := by rw [← ofL_bs s, List.eq_nil_of_length_eq_zero (l := bs s) (by rw [size_bs]; omega)]
  rw [ByteArray.toList_eq]; rfl
theorem empty_false {s : ByteArray} (h : 0 < s.size) : s.toList.isEmpty = false := by
  rw [ByteArray.toList_eq]
  have : 0 < s.data.toList.length := by rw [show s.data.toList.length = s.size from size_bs s]; exact h
  cases hh : s.data.toList with
  | nil => rw [hh] at this; simp at this
  | cons => rfl

/- The document's Class counts. -/
theorem count_le (p : UInt8 → Bool) (s : ByteArray) (k : Nat) : ((bs s).take k).countP p ≤ k := Nat.le_trans List.countP_le_length (by rw [List.length_take]; omega)
theorem count_succ (p : UInt8 → Bool) (s : ByteArray) (k : Nat) (h : k < s.size) : ((bs s).take (k + 1)).countP p = ((bs s).take k).countP p + (if p s[k] then 1 else 0) := by
  rw [bs_take_succ s k h, List.countP_append]; simp [List.countP_cons]
theorem count_all (p : UInt8 → Bool) (l : List UInt8) : l.all p = true ↔ l.countP p = l.length := by
  rw [List.countP_eq_length, List.all_eq_true]
theorem count_sum (l : List UInt8) : l.countP isN = l.countP isA + l.countP isD := by
  induction l with
  | nil => rfl
  | cons c r ih =>
    rw [List.countP_cons, List.countP_cons, List.countP_cons, ih]
    by_cases h1 : isA c = true
    · have h2 := isA_not_isD c h1
      have h3 : isN c = true := by simp [isN, h1]
      simp [h1, h2, h3]; omega
    · by_cases h2 : isD c = true
      · have h3 : isN c = true := by simp [isN, h2]
        simp [h1, h2, h3]; omega
      · have h3 : isN c = false := by simp [isN, h1, h2]
        simp [h1, h2, h3]
theorem classS_count (s : ByteArray) (a d : Nat) (ha : (bs s).countP isA = a) (hd : (bs s).countP isD = d) :
    classS s = if s.size = 0 ∨ a + d < s.size then 0 else if d = 0 then 1 else if a = 0 then 2 else 3 := by
  have hN := count_sum (bs s)
  rw [ha, hd] at hN
  have hA := count_all isA (bs s)
  have hD := count_all isD (bs s)
  have hM := count_all isN (bs s)
  rw [ha, size_bs] at hA
  rw [hd, size_bs] at hD
  rw [hN, size_bs] at hM
  have hle : a + d ≤ s.size := by rw [← hN, ← size_bs s]; exact List.countP_le_length
  have hE : (bs s).isEmpty = decide (s.size = 0) := by
    rw [Bool.eq_iff_iff, List.isEmpty_iff, decide_eq_true_iff, ← size_bs s]
    exact List.length_eq_zero_iff.symm
  have hA' : (bs s).all isA = decide (a = s.size) := by rw [Bool.eq_iff_iff, hA, decide_eq_true_iff]
  have hD' : (bs s).all isD = decide (d = s.size) := by rw [Bool.eq_iff_iff, hD, decide_eq_true_iff]
  have hM' : (bs s).all isN = decide (a + d = s.size) := by rw [Bool.eq_iff_iff, hM, decide_eq_true_iff]
  unfold classS alphaS digitS alnumS has
  rw [hE, hA', hD', hM']
  by_cases h0 : s.size = 0
  · rw [decide_eq_true h0, if_pos (show s.size = 0 ∨ a + d < s.size from .inl h0)]; rfl
  · rw [decide_eq_false h0]
    by_cases h1 : a + d < s.size
    · rw [decide_eq_false (show ¬ a = s.size by omega), decide_eq_false (show ¬ d = s.size by omega), decide_eq_false (show ¬ a + d = s.size by omega), if_pos (show s.size = 0 ∨ a + d < s.size from .inr h1)]; rfl
    · rw [if_neg (show ¬ (s.size = 0 ∨ a + d < s.size) by omega)]
      by_cases h2 : d = 0
      · rw [decide_eq_true (show a = s.size by omega), if_pos h2]; rfl
      · by_cases h3 : a = 0
        · rw [decide_eq_false (show ¬ a = s.size by omega), decide_eq_true (show d = s.size by omega), if_neg h2, if_pos h3]; rfl
        · rw [decide_eq_false (show ¬ a = s.size by omega), decide_eq_false (show ¬ d = s.size by omega), decide_eq_true (show a + d = s.size by omega), if_neg h2, if_neg h3]; rfl

/-- What the rounds keep. -/
def CcI (s : ByteArray) (k a d : Nat) : Prop := ((bs s).take k).countP isA = a ∧ ((bs s).take k).countP isD = d
theorem CcI.step {s : ByteArray} {k a d : Nat} (h : CcI s k a d) (hk : k < s.size) : CcI s (k + 1) (a + if isA s[k] then 1 else 0) (d + if isD s[k] then 1 else 0) := by
  unfold CcI at *
  rw [count_succ _ _ _ hk, count_succ _ _ _ hk, h.1, h.2]
  exact ⟨rfl, rfl⟩
theorem CcI.le {s : ByteArray} {k a d : Nat} (h : CcI s k a d) : a ≤ k ∧ d ≤ k := ⟨by rw [← h.1]; exact count_le _ _ _, by rw [← h.2]; exact count_le _ _ _⟩
theorem CcI.fin {s : ByteArray} {a d : Nat} (h : CcI s s.size a d) : classS s = if s.size = 0 ∨ a + d < s.size then 0 else if d = 0 then 1 else if a = 0 then 2 else 3 := by
  unfold CcI at h
  rw [List.take_of_length_le (by rw [size_bs]; exact Nat.le_refl _)] at h
  exact classS_count s a d h.1 h.2

/- The document's Compare, over the two small texts x and y. -/
def RcI (x y : ByteArray) (k : Nat) : Prop := cmpL (bs x) (bs y) = cmpL ((bs x).drop k) ((bs y).drop k)
theorem RcI.step {x y : ByteArray} {k : Nat} (h : RcI x y k) (hx : k < x.size) (hy : k < y.size) :
    (x[k].toNat < y[k].toNat → cmpL (bs x) (bs y) = -1) ∧ (y[k].toNat < x[k].toNat → cmpL (bs x) (bs y) = 1) ∧ (x[k].toNat = y[k].toNat → RcI x y (k + 1)) := by
  unfold RcI at *
  have e1 : (bs x).drop k = x[k] :: (bs x).drop (k + 1) := List.drop_eq_getElem_cons (by simpa [size_bs] using hx)
  have e2 : (bs y).drop k = y[k] :: (bs y).drop (k + 1) := List.drop_eq_getElem_cons (by simpa [size_bs] using hy)
  rw [e1, e2] at h
  rw [h]
  refine ⟨fun h1 => ?_, fun h1 => ?_, fun h1 => ?_⟩
  · simp [cmpL, h1]
  · simp [cmpL, h1, show ¬ x[k].toNat < y[k].toNat by omega]
  · simp [cmpL, h1]
theorem RcI.fin {x y : ByteArray} {k : Nat} (h : RcI x y k) (hk : k = min x.size y.size) : cmpL (bs x) (bs y) = sgn (x.size : Int) y.size := by
  unfold RcI at h
  rw [h, cmpL_end _ _ k (by simpa [size_bs] using hk)]
  rfl

end Go.Proofs.Ythjfcfhibdpbnaa

/-! The statements' own: awake and short. -/
namespace Go.Proofs.Ythjfcfhibdpbnaa
open Go Go.RowKit

/-- A text cut to 40 bytes. -/
def cut (s : ByteArray) : ByteArray := if 40 < s.size then s.extract 0 40 else s
end Go.Proofs.Ythjfcfhibdpbnaa

/-! What the laws of layer 2 share: contracts that go on from the start of the law; what a class says. -/
namespace Go.Proofs.Ythjfcfhibdpbnaa
open Go Go.RowKit

/-- A contract whose world is told of the world in which it is called, told of the start of the law. -/
theorem onward {K : FuncId} {args : Array Value} {v : Ending} (w : World) (h : ∀ w5, Calls Try.prog K args w5 fun e w6 => e = v ∧ Below w5.heap.size w5 w6) :
    Hid (∀ w5, Below w.heap.size w w5 → Calls Try.prog K args w5 fun e w6 => e = v ∧ Below w.heap.size w w6) :=
  fun w5 hb => (h w5).mono fun _ _ ⟨p, q⟩ => ⟨p, hb.trans (q.mono hb.size)⟩
/-- A contract's result under another name. -/
theorem told {K : FuncId} {args : Array Value} {v v' : Ending} {w : World} (h : Hid (∀ w5, Below w.heap.size w w5 → Calls Try.prog K args w5 fun e w6 => e = v ∧ Below w.heap.size w w6)) (e : v = v') :
    Hid (∀ w5, Below w.heap.size w w5 → Calls Try.prog K args w5 fun e w6 => e = v' ∧ Below w.heap.size w w6) := by
  rw [← e]; exact h

end Go.Proofs.Ythjfcfhibdpbnaa
