/-
  Package table: rows by their numbers, found by halves, told one by one.
-/
import Derived.Test.YtlpjdknmnomdlaaGreatDoorWMath
import Derived.Test.YtlpjdknmnomdlaaGreatDoorFault
import Derived.Test.YtlpjdknmnomdlaaGreatDoorDSeq
import Derived.BigQuiet
import Derived.Deep.QuietTactic
import Derived.StillTailTactics
import Derived.Laws.Cover1
import Derived.Sort.Walk0
import Derived.Lib.Strings
import Derived.Sort.QuietTacIn
import Derived.OrdersIn
namespace Go.Proofs.YtlpjdknmnomdlaaGreatDoor
open Go Go.RowKit

def tabObj (W K : Nat) (s : ByteArray) : Obj := .cells #[.int .i64 (W : Int), .int .i64 (K : Int), .string s] 203 (0, 0)
theorem tab_cells {w : World} {b W K : Nat} {s : ByteArray} (h : w.heap[b]? = some (tabObj W K s)) :
    w.cell? ⟨b, 0, none⟩ = some (.int .i64 (W : Int)) ∧ w.cell? ⟨b, 1, none⟩ = some (.int .i64 (K : Int)) ∧ w.cell? ⟨b, 2, none⟩ = some (.string s) := by
  simp [World.cell?, h, tabObj]

theorem ret_intW {k : IntKind} {a b : Int} (h : a = b) : Ending.returned (.int k a) = .returned (.int k b) := by rw [h]
theorem ret_boolW {a b : Bool} (h : a = b) : Ending.returned (.bool a) = .returned (.bool b) := by rw [h]
theorem ret_stringW {a b : ByteArray} (h : a = b) : Ending.returned (.string a) = .returned (.string b) := by rw [h]
theorem less_ltW (x y : ByteArray) : Op.bytesLess x.toList y.toList = ltW x y := by
  rw [bytesLess_eq, Lib.toList_data, Lib.toList_data]; rfl
theorem eql_W (x y : ByteArray) : (x.toList == y.toList) = decide (x = y) := by
  rw [Bool.eq_iff_iff, beq_iff_eq, decide_eq_true_eq, Lib.toList_data, Lib.toList_data]
  exact ⟨fun h => bL_ext h, fun h => by rw [h]⟩
theorem lt_of_cellW {W : World} {a : Addr} {v : Value} (h : W.cell? a = some v) : a.block < W.heap.size := World.block_lt_of_cell? _ _ h

set_option maxRecDepth 100000 in
theorem lenW_nil (w : World) : Calls Tryz.prog 206 #[.pointer none] w fun e w' => e = .returned (.int .i64 0) ∧ w = w' := by
  go_enter Tryz.func206, Tryz.ntmps206
  go_wp2
  go_ret
  exact ⟨rfl, rfl⟩
set_option maxRecDepth 100000 in
theorem lenW_any {b W K : Nat} {s : ByteArray} (w : World) (h : w.heap[b]? = some (tabObj W K s)) (hW : 0 < W) (hW2 : W ≤ 255) (hs : s.size ≤ 1048576) :
    Calls Tryz.prog 206 #[.pointer (some ⟨b, 0, none⟩)] w fun e w' => e = .returned (.int .i64 ((s.size / W : Nat) : Int)) ∧ ∃ n, w' = w.drewN n := by
  obtain ⟨c0, c1, c2⟩ := tab_cells h
  have h0 : ((W : Int) == 0) = false := by rw [beq_eq_false_iff_ne]; omega
  have h1 : (W : Int) ≠ 0 := by omega
  have HE := Lib.hid (show wrap64 ((s.size : Int) / (W : Int)) = ((s.size / W : Nat) : Int) by
    have h2 : s.size / W ≤ s.size := Nat.div_le_self _ _
    rw [← Int.natCast_ediv]
    generalize s.size / W = z at *
    exact IntWalk.wrap64_in _ ⟨by omega, by omega⟩)
  clear h
  go_enter Tryz.func206, Tryz.ntmps206
  go_wp2_with fail
  go_quiet (fail)
  go_wp2
  go_ret
  exact ⟨ret_intW HE.out, _, rfl⟩

set_option maxRecDepth 100000 in
theorem rowW_none (i : Int) (w : World) : Calls Tryz.prog 207 #[.pointer none, .int .i64 i] w fun e w' => e = .returned (.tuple #[.string ⟨#[]⟩, .bool false]) ∧ w = w' := by
  by_cases hi : i < 0
  · go_enter Tryz.func207, Tryz.ntmps207
    go_wp2_with (go_at_call 206; refine (lenW_nil _).mono ?_; rintro e w' ⟨rfl, rfl⟩)
    go_ret2
    exact ⟨rfl, rfl⟩
  · have h0 : 0 ≤ i := by omega
    go_enter Tryz.func207, Tryz.ntmps207
    go_wp2_with (go_at_call 206; refine (lenW_nil _).mono ?_; rintro e w' ⟨rfl, rfl⟩)
    go_ret2
    exact ⟨rfl, rfl⟩
set_option maxRecDepth 100000 in
theorem rowW_out {b W K : Nat} {s : ByteArray} (i : Int) (w : World) (h : w.heap[b]? = some (tabObj W K s)) (hW : 0 < W) (hW2 : W ≤ 255) (hs : s.size ≤ 1048576) (hi : i < 0 ∨ ((s.size / W : Nat) : Int) ≤ i) :
    Calls Tryz.prog 207 #[.pointer (some ⟨b, 0, none⟩), .int .i64 i] w fun e w' => e = .returned (.tuple #[.string ⟨#[]⟩, .bool false]) ∧ ∃ n, w' = w.drewN n := by
  have HL := Lib.hid (lenW_any w h hW hW2 hs)
  clear h
  generalize s.size / W = n at *
  by_cases h0 : i < 0
  · go_enter Tryz.func207, Tryz.ntmps207
    go_wp2_with (go_at_call 206; refine HL.out.mono ?_; rintro e w' ⟨rfl, q, rfl⟩)
    go_ret2
    exact ⟨rfl, 0, rfl⟩
  · have h1 : (n : Int) ≤ i := by omega
    have h2 : 0 ≤ i := by omega
    go_enter Tryz.func207, Tryz.ntmps207
    go_wp2_with (go_at_call 206; refine HL.out.mono ?_; rintro e w' ⟨rfl, q, rfl⟩)
    go_ret2
    exact ⟨rfl, q, rfl⟩
set_option maxRecDepth 100000 in
theorem rowW_in {b W K i : Nat} {s : ByteArray} (w : World) (h : w.heap[b]? = some (tabObj W K s)) (hW : 0 < W) (hW2 : W ≤ 255) (hs : s.size ≤ 1048576) (hi : i < s.size / W) :
    Calls Tryz.prog 207 #[.pointer (some ⟨b, 0, none⟩), .int .i64 (i : Int)] w fun e w' => e = .returned (.tuple #[.string (rowW W s i), .bool true]) ∧ ∃ n, w' = w.drewN n := by
  have HL := Lib.hid (lenW_any w h hW hW2 hs)
  obtain ⟨c0, c1, c2⟩ := tab_cells h
  have he := row_end hi
  have h3 : i < s.size := Nat.lt_of_lt_of_le hi (Nat.div_le_self _ _)
  obtain ⟨n, hn⟩ : ∃ n, s.size / W = n := ⟨_, rfl⟩
  obtain ⟨a, ha⟩ : ∃ a, i * W = a := ⟨_, rfl⟩
  obtain ⟨z, hz⟩ : ∃ z, (i + 1) * W = z := ⟨_, rfl⟩
  have haz : a ≤ z := by rw [← ha, ← hz, Nat.succ_mul]; omega
  have HR := Lib.hid (show s.extract a z = rowW W s i by unfold rowW; rw [ha, hz])
  rw [hz] at he
  rw [hn] at hi HL
  have e1 : IntKind.i64.wrap ((i : Int) * (W : Int)) = (a : Int) := by rw [← Int.natCast_mul, ha]; exact IntWalk.i64_in (a : Int) (by omega)
  have e2 : IntKind.i64.wrap ((i : Int) + 1) = (i : Int) + 1 := IntWalk.i64_in ((i : Int) + 1) (by omega)
  have e3 : IntKind.i64.wrap (((i : Int) + 1) * (W : Int)) = (z : Int) := by rw [show ((i : Int) + 1) = ((i + 1 : Nat) : Int) by omega, ← Int.natCast_mul, hz]; exact IntWalk.i64_in (z : Int) (by omega)
  have h4 : (0 : Int) ≤ (i : Int) := by omega
  have h5 : (i : Int) < (n : Int) := by omega
  have g1 : decide (n ≤ i) = false := by simpa using hi
  have g2 : decide ((i : Int) < 0) = false := decide_eq_false (by omega)
  have h6 : (a : Int) ≤ (z : Int) := by omega
  have h7 : (z : Int) ≤ (s.size : Int) := by omega
  clear h hn ha hz hs h3
  go_enter Tryz.func207, Tryz.ntmps207
  go_wp2_with (go_at_call 206; refine HL.out.mono ?_; rintro e w' ⟨rfl, q, rfl⟩)
  go_quiet (fail)
  go_wp2
  go_ret2
  exact ⟨by rw [← HR.out]; rfl, _, World.drewN_drewN ..⟩

/-- Which rows a table may have. -/
structure Wid (W K : Nat) (s : ByteArray) : Prop where
  k0 : 0 < K
  kW : K ≤ W
  w255 : W ≤ 255
  sz : s.size ≤ 1048576
theorem Wid.pos {W K : Nat} {s : ByteArray} (h : Wid W K s) : 0 < W := Nat.lt_of_lt_of_le h.k0 h.kW

set_option maxRecDepth 100000 in
/-- The question of search. -/
theorem asksW {b W K B1 B2 i : Nat} {s key : ByteArray} (w : World) (h : w.heap[b]? = some (tabObj W K s)) (hw : Wid W K s) (hi : i < s.size / W)
    (h1 : w.heap[B1]? = some (.cells #[.pointer (some ⟨b, 0, none⟩)] 152 (0, 0))) (h2 : w.heap[B2]? = some (.cells #[.string key] 9 (0, 0))) :
    Calls Tryz.prog 225 #[.int .i64 (i : Int), .pointer (some ⟨B1, 0, none⟩), .pointer (some ⟨B2, 0, none⟩)] w fun e w' => e = .returned (.bool (!ltW (keyW K (rowW W s i)) key)) ∧ ∃ n, w' = w.drewN n := by
  have HR := Lib.hid (rowW_in (K := K) w h hw.pos hw.w255 hw.sz hi)
  obtain ⟨c0, c1, c2⟩ := tab_cells h
  have d1 := cell_of_one h1
  have d2 := cell_of_one h2
  have hr : (rowW W s i).size = W := rowW_size hi
  have h3 : (K : Int) ≤ ((rowW W s i).size : Int) := by have := hw.kW; omega
  have h4 : (0 : Int) ≤ (K : Int) := by omega
  clear h h1 h2 hr hi
  generalize rowW W s i = r at *
  go_enter Tryz.func225, Tryz.ntmps225
  go_wp2_with (go_at_call 207; refine HR.out.mono ?_; rintro e w' ⟨rfl, q, rfl⟩)
  go_quiet (fail)
  go_wp2
  go_ret
  exact ⟨ret_boolW (by rw [less_ltW]; rfl), _, World.drewN_drewN ..⟩

set_option maxRecDepth 100000 in
theorem sortSearch_none (f : Value) (w : World) : Calls Tryz.prog 224 #[.int .i64 0, f] w fun e w' => e = .returned (.int .i64 0) ∧ w = w' := by
  go_enter Tryz.func224, Tryz.ntmps224
  go_wp2
  go_loop [5, 6] (fun x y => x = .int .i64 0 ∧ y = .int .i64 0) (fun _ _ => 0)
  case atStart => exact ⟨rfl, rfl⟩
  case round =>
    obtain ⟨rfl, rfl⟩ := hrel
    go_wp2
    go_ret
    exact ⟨rfl, rfl⟩
set_option maxRecDepth 100000 in
set_option maxHeartbeats 1000000 in
theorem sortSearchW {b W K B1 B2 : Nat} {s key : ByteArray} (w : World) (h : w.heap[b]? = some (tabObj W K s)) (hw : Wid W K s) (hm : MonoW K (rowsW W s) key)
    (h1 : w.heap[B1]? = some (.cells #[.pointer (some ⟨b, 0, none⟩)] 152 (0, 0))) (h2 : w.heap[B2]? = some (.cells #[.string key] 9 (0, 0))) :
    Calls Tryz.prog 224 #[.int .i64 ((s.size / W : Nat) : Int), .func (.func 225) #[] #[.pointer (some ⟨B1, 0, none⟩), .pointer (some ⟨B2, 0, none⟩)]] w
      fun e w' => e = .returned (.int .i64 (searchW K (rowsW W s) key : Int)) ∧ ∃ n, w' = w.drewN n := by
  have hn : s.size / W ≤ 1048576 := Nat.le_trans (Nat.div_le_self _ _) hw.sz
  have hL : searchW K (rowsW W s) key ≤ s.size / W := by have := searchW_le K (rowsW W s) key; rwa [rowsW_len] at this
  have Q := Lib.hid (fun i q (hi : i < s.size / W) => (asksW (w.drewN q) (key := key) h hw hi h1 h2).mono (R' := fun e w6 => e = .returned (.bool (decide (searchW K (rowsW W s) key ≤ i))) ∧ ∃ m, w6 = w.drewN m) fun e w6 ⟨p, m, hm'⟩ => ⟨by
    rw [p]
    have := hm i _ (rowsW_at hi)
    exact ret_boolW (by
      rw [Bool.eq_iff_iff, decide_eq_true_eq, ← this]
      cases ltW (keyW K (rowW W s i)) key <;> simp), q + m, by rw [hm', World.drewN_drewN]⟩)
  clear h hm h1 h2
  generalize searchW K (rowsW W s) key = v at *
  generalize s.size / W = n at *
  clear hw
  go_enter Tryz.func224, Tryz.ntmps224
  go_wp2
  go_loopw [5, 6] (fun x y wr => ∃ lo hi q : Nat, x = .int .i64 (lo : Int) ∧ y = .int .i64 (hi : Int) ∧ lo ≤ v ∧ v ≤ hi ∧ hi ≤ n ∧ wr = w.drewN q) (fun x y _ => (intOf y).toNat - (intOf x).toNat)
  case atStart => exact ⟨0, n, 0, rfl, rfl, Nat.zero_le _, hL, Nat.le_refl _, rfl⟩
  case round =>
    obtain ⟨lo, hi, q, rfl, rfl, h1, h2, h3, rfl⟩ := hrel
    by_cases hlt : lo < hi
    · have hlt' : (lo : Int) < (hi : Int) := by omega
      obtain ⟨m, hm⟩ : ∃ m, (lo + hi) / 2 = m := ⟨_, rfl⟩
      have hmi : ((lo : Int) + (hi : Int)) / 2 = (m : Int) := by omega
      have hml : lo ≤ m := by omega
      have hmh : m < hi := by omega
      have hx0 : (0 : Int) ≤ (m : Int) := by omega
      have hx1 : (m : Int) ≤ 1048576 := by omega
      have hx2 : (hi : Int) ≤ 1048576 := by omega
      by_cases hv : v ≤ m
      · have QM := Lib.hid (show Calls Tryz.prog 225 #[.int .i64 (m : Int), .pointer (some ⟨B1, 0, none⟩), .pointer (some ⟨B2, 0, none⟩)] (w.drewN q) fun e w6 => e = .returned (.bool true) ∧ ∃ m, w6 = w.drewN m by
          have := Q.out m q (by omega)
          rwa [decide_eq_true hv] at this)
        go_wp2_with (go_at_call 225; (with_reducible refine QM.out.mono ?_); rintro e w5 ⟨rfl, q5, rfl⟩)
        go_roundw
        case rel => exact ⟨lo, m, q5, rfl, rfl, h1, hv, by omega, rfl⟩
        case measure => simp [intOf]; omega
      · have QM := Lib.hid (show Calls Tryz.prog 225 #[.int .i64 (m : Int), .pointer (some ⟨B1, 0, none⟩), .pointer (some ⟨B2, 0, none⟩)] (w.drewN q) fun e w6 => e = .returned (.bool false) ∧ ∃ m, w6 = w.drewN m by
          have := Q.out m q (by omega)
          rwa [decide_eq_false hv] at this)
        go_wp2_with (go_at_call 225; (with_reducible refine QM.out.mono ?_); rintro e w5 ⟨rfl, q5, rfl⟩)
        go_roundw
        case rel => exact ⟨m + 1, hi, q5, by go_num, rfl, by omega, h2, h3, rfl⟩
        case measure => simp [intOf]; omega
    · obtain rfl : lo = v := by omega
      obtain rfl : lo = hi := by omega
      have hlt' : ¬ (lo : Int) < (lo : Int) := by omega
      go_wp2
      go_ret
      exact ⟨rfl, q, rfl⟩

set_option maxRecDepth 100000 in
theorem search_none (key : ByteArray) (w : World) : Calls Tryz.prog 205 #[.pointer none, .string key] w fun e w' => e = .returned (.int .i64 0) ∧ Below w.heap.size w w' := by
  go_enter Tryz.func205, Tryz.ntmps205
  go_wp2_with (first | (go_at_call 206; refine (lenW_nil _).mono ?_; rintro e w' ⟨rfl, rfl⟩) | (go_at_call 224; refine (sortSearch_none _ _).mono ?_; rintro e w' ⟨rfl, rfl⟩))
  go_ret
  exact ⟨rfl, ((Below.refl _ w).alloc (Nat.le_refl _) _).alloc (by simp) _⟩
set_option maxRecDepth 100000 in
theorem searchW_any {b W K : Nat} {s : ByteArray} (key : ByteArray) (w : World) (h : w.heap[b]? = some (tabObj W K s)) (hw : Wid W K s) (hm : MonoW K (rowsW W s) key) :
    Calls Tryz.prog 205 #[.pointer (some ⟨b, 0, none⟩), .string key] w fun e w' => e = .returned (.int .i64 (searchW K (rowsW W s) key : Int)) ∧ Below w.heap.size w w' := by
  obtain ⟨W0, hW0⟩ : ∃ W0, (w.alloc (.cells #[.pointer (some ⟨b, 0, none⟩)] 152)).alloc (.cells #[.string key] 9) = W0 := ⟨_, rfl⟩
  have hb0 : Below w.heap.size w W0 := by rw [← hW0]; exact ((Below.refl _ w).alloc (Nat.le_refl _) _).alloc (by simp) _
  have h1 : W0.heap[w.heap.size]? = some (.cells #[.pointer (some ⟨b, 0, none⟩)] 152 (0, 0)) := by
    rw [← hW0, Below.heap_alloc _ _ _ (by simp)]; exact World.alloc_heap_new w _
  have h2 : W0.heap[w.heap.size + 1]? = some (.cells #[.string key] 9 (0, 0)) := by
    rw [← hW0]
    have := World.alloc_heap_new (w.alloc (.cells #[.pointer (some ⟨b, 0, none⟩)] 152)) (.cells #[.string key] 9)
    rwa [World.size_alloc] at this
  have h0 := (hb0.block b (lt_of_block h)).trans h
  have d1 := cell_of_one h1
  have HL := Lib.hid (lenW_any W0 h0 hw.pos hw.w255 hw.sz)
  have HS := Lib.hid (fun q => sortSearchW (W0.drewN q) h0 hw hm h1 h2)
  have HB := Lib.hid hb0
  have hmf : ∀ (fn : Fn) (first cap : Array Value) (w : World), (Instr.makeFunc fn first cap).run Tryz.prog w = .ok (.func fn first cap) w := fun _ _ _ _ => rfl
  clear h hm hb0 h1 h2 h0
  generalize searchW K (rowsW W s) key = v at *
  generalize s.size / W = n at *
  clear hw
  go_enter Tryz.func205, Tryz.ntmps205
  go_wp2_with (first | (go_at_call 206; (with_reducible refine HL.out.mono ?_); rintro e w' ⟨rfl, q, rfl⟩) | (go_at_call 224; (with_reducible refine (HS.out _).mono ?_); rintro e w' ⟨rfl, q2, rfl⟩))
  go_ret
  exact ⟨rfl, below_drewN HB.out _⟩

theorem makeFW (fn : Fn) (first cap : Array Value) (w : World) : (Instr.makeFunc fn first cap).run Tryz.prog w = .ok (.func fn first cap) w := rfl
set_option maxRecDepth 100000 in
theorem prefix_make (t : Option Addr) (key : ByteArray) (w : World) :
    Calls Tryz.prog 191 #[.pointer t, .string key] w fun e w' => e = .returned (.func (.func 204) #[] #[.pointer (some ⟨w.heap.size, 0, none⟩), .pointer (some ⟨w.heap.size + 1, 0, none⟩)]) ∧ (w.alloc (.cells #[.pointer t] 152)).alloc (.cells #[.string key] 9) = w' := by
  have hmf := makeFW
  go_enter Tryz.func191, Tryz.ntmps191
  go_wp2
  go_ret
  exact ⟨rfl, rfl⟩

set_option maxRecDepth 100000 in
theorem hasPre_lite (r key : ByteArray) (w : World) : Calls Tryz.prog 226 #[.string r, .string key] w fun e w' => e = .returned (.bool (startsW r key)) ∧ w = w' := by
  by_cases hl : key.size ≤ r.size
  · have h1 : decide ((key.size : Int) ≤ (r.size : Int)) = true := by simpa using hl
    have h2 : (key.size : Int) ≤ (r.size : Int) := by omega
    have h3 : (0 : Int) ≤ (key.size : Int) := by omega
    have HE := Lib.hid (show ((r.extract 0 key.size).toList == key.toList) = startsW r key by rw [startsW_eq, Lib.toList_data, Lib.toList_data]; rfl)
    clear hl
    go_enter Tryz.func226, Tryz.ntmps226
    go_wp2
    go_ret
    exact ⟨ret_boolW HE.out, rfl⟩
  · have h1 : decide ((key.size : Int) ≤ (r.size : Int)) = false := by simpa using hl
    have h2 : ¬ (key.size : Int) ≤ (r.size : Int) := by omega
    have HE := Lib.hid (startsW_size (r := r) (key := key) (by omega))
    clear hl
    go_enter Tryz.func226, Tryz.ntmps226
    go_wp2
    go_ret
    exact ⟨ret_boolW HE.out.symm, rfl⟩
set_option maxRecDepth 100000 in
theorem hasPre_any (r key : ByteArray) (w : World) : Calls Tryz.prog 208 #[.string r, .string key] w fun e w' => e = .returned (.bool (startsW r key)) ∧ w = w' := by
  go_enter Tryz.func208, Tryz.ntmps208
  go_wp2_with (go_at_call 226; refine (hasPre_lite _ _ _).mono ?_; rintro e w' ⟨rfl, rfl⟩)
  go_ret
  exact ⟨rfl, rfl⟩
end Go.Proofs.YtlpjdknmnomdlaaGreatDoor
