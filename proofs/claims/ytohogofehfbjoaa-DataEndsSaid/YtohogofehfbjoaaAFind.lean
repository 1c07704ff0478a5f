/-
  Package data: what is looked for is the first that fits. (Printed by wip/gen_afind.py.)
-/
import Derived.Test.YtohogofehfbjoaaAImg
namespace Go.Proofs.Ytohogofehfbjoaa
open Go Go.RowKit

def pA (k : Int) (a b : ByteArray) (x : Ax) : Bool := (x.k == k) && ((x.a.toList == a.toList) && (x.b.toList == b.toList))
def pL (l s r : ByteArray) (x : Lx) : Bool := (x.l.toList == l.toList) && ((x.s.toList == s.toList) && (x.r.toList == r.toList))
def zeroAx : Ax := ⟨0, ⟨#[]⟩, ⟨#[]⟩, ⟨#[]⟩, ⟨#[]⟩, ⟨#[]⟩⟩
def zeroLx : Lx := ⟨⟨#[]⟩, ⟨#[]⟩, ⟨#[]⟩, ⟨#[]⟩, ⟨#[]⟩, ⟨#[]⟩⟩
theorem flatA {α : Type} {f : α → List Value} {sz : Nat} (hs : ∀ x, (f x).length = sz) : ∀ {L : List α} {k j : Nat} {x : α} {v : Value}, L[k]? = some x → (f x)[j]? = some v → (L.flatMap f)[k * sz + j]? = some v
  | [], k, j, x, v, h, _ => by simp at h
  | y :: r, 0, j, x, v, h, hv => by
    simp at h; subst h
    rw [Nat.zero_mul, Nat.zero_add, List.flatMap_cons, List.getElem?_append_left (List.getElem?_eq_some_iff.1 hv).1]
    exact hv
  | y :: r, k + 1, j, x, v, h, hv => by
    rw [List.flatMap_cons, List.getElem?_append_right (by rw [hs, Nat.succ_mul]; omega)]
    have e : (k + 1) * sz + j - (f y).length = k * sz + j := by rw [hs, Nat.succ_mul]; omega
    rw [e]
    exact flatA hs (by simpa using h) hv
theorem cellA {W : World} {g : Nat} {cs : List Value} {t : TypeId} (h : W.heap[g]? = some (.cells cs.toArray t (0, 0))) {k : Nat} {v : Value} (hv : cs[k]? = some v) : W.cell? ⟨g, k, none⟩ = some v := by
  rw [Go.cell_of_row W g k _ t (0, 0) h]
  simpa using hv
theorem results_cell_tmpA {P : Program} {fn : Func} {p q : Tmp} {ty : TypeId} (h : fn.results = #[.cell p ty, .tmp q]) (tmps : Array Value) (w : World) (g : Nat) (t : TypeId) (cs : Array Value) (fr : Nat × Nat) (d : TypeDesc) (v : Value)
    (hp : tmps.getD p undef = .pointer (some ⟨g, 0, none⟩)) (hv : tmps.getD q undef = v) (hg : w.heap[g]? = some (.cells cs t fr))
    (hu : P.underlying ty = some d) (hd : (match d with | .struct _ | .array _ _ => true | _ => false) = true) (hi : (P.info? ty).map (·.size) = some cs.size) :
    (results fn tmps).run P w = .ok (.tuple #[.agg cs, v]) w := by
  have hp' : tmps[p]?.getD undef = .pointer (some ⟨g, 0, none⟩) := by simpa using hp
  have hv' : tmps[q]?.getD undef = v := by simpa using hv
  simp [results, h, hp', hv', asAddr, run_loadVar_row w g t ty cs fr d hg hu hd hi]
theorem oneA {W : World} {g : Nat} {v : Value} {t : TypeId} (h : W.heap[g]? = some (.cells #[v] t (0, 0))) : W.cell? ⟨g, 0, none⟩ = some v := by
  rw [Go.cell_of_row W g 0 _ t (0, 0) h]; rfl
def axCV (x : Ax) : Value := .agg #[.int .i64 x.k, .string x.a, .string x.b, .string x.l, .string x.s, .string x.r]
theorem sizeAx : (Try.prog.info? 32).map (·.size) = some 6 := by kernel_rfl
set_option maxRecDepth 100000 in
set_option maxHeartbeats 2000000 in
theorem asksA (x : Ax) (k : Int) (a b : ByteArray) (b1 b2 b3 : Nat) (w : World) (h1 : w.heap[b1]? = some (.cells #[.int .i64 k] 3 (0, 0))) (h2 : w.heap[b2]? = some (.cells #[.string a] 9 (0, 0))) (h3 : w.heap[b3]? = some (.cells #[.string b] 9 (0, 0))) :
    Calls Try.prog 16 #[.agg #[.int .i64 x.k, .string x.a, .string x.b, .string x.l, .string x.s, .string x.r], .pointer (some ⟨b1, 0, none⟩), .pointer (some ⟨b2, 0, none⟩), .pointer (some ⟨b3, 0, none⟩)] w fun e w' => e = .returned (.bool (pA k a b x)) ∧ Below w.heap.size w w' := by
  obtain ⟨z, hz⟩ : ∃ z, pA k a b x = z := ⟨_, rfl⟩
  rw [hz]
  have hB := (Below.refl w.heap.size w).alloc (Nat.le_refl _) (.cells #[.int .i64 x.k, .string x.a, .string x.b, .string x.l, .string x.s, .string x.r] 32)
  have c1 := (hB.cell (p := ⟨b1, 0, none⟩) (lt_of_block h1)).trans (oneA h1)
  have c2 := (hB.cell (p := ⟨b2, 0, none⟩) (lt_of_block h2)).trans (oneA h2)
  have c3 := (hB.cell (p := ⟨b3, 0, none⟩) (lt_of_block h3)).trans (oneA h3)
  clear h1 h2 h3
  unfold pA at hz
  cases e1 : (x.k == k) <;> cases e2 : (x.a.toList == a.toList) <;> cases e3 : (x.b.toList == b.toList) <;> (rw [e1, e2, e3] at hz; obtain rfl : _ = z := hz) <;>
    (go_enter Try.func16, Try.ntmps16
     go_wp2
     go_ret
     exact ⟨rfl, by assumption⟩)
set_option maxRecDepth 100000 in
set_option maxHeartbeats 2000000 in
theorem foundA (L : List Ax) (g : Nat) (k : Int) (a b : ByteArray) (b1 b2 b3 : Nat) (w : World) (hl : L.length ≤ 1000) (hg : w.heap[g]? = some (.cells (L.flatMap axC).toArray 32 (0, 0))) (h1 : w.heap[b1]? = some (.cells #[.int .i64 k] 3 (0, 0))) (h2 : w.heap[b2]? = some (.cells #[.string a] 9 (0, 0))) (h3 : w.heap[b3]? = some (.cells #[.string b] 9 (0, 0))) :
    Calls Try.prog 14 #[.slice (some ⟨g, 0, none⟩) L.length L.length, .func (.func 16) #[] #[.pointer (some ⟨b1, 0, none⟩), .pointer (some ⟨b2, 0, none⟩), .pointer (some ⟨b3, 0, none⟩)]] w fun e w' => e = .returned (.tuple #[axCV ((L.find? (pA k a b)).getD zeroAx), .bool (L.find? (pA k a b)).isSome]) ∧ Below w.heap.size w w' := by
  obtain ⟨W1, hW1⟩ : ∃ W1, w.alloc (.cells #[.int .i64 0, .string ⟨#[]⟩, .string ⟨#[]⟩, .string ⟨#[]⟩, .string ⟨#[]⟩, .string ⟨#[]⟩] 32) = W1 := ⟨_, rfl⟩
  have hb1 : Below w.heap.size w W1 := by rw [← hW1]; exact (Below.refl _ w).alloc (Nat.le_refl _) _
  have hM : W1.heap[w.heap.size]? = some (.cells #[.int .i64 0, .string ⟨#[]⟩, .string ⟨#[]⟩, .string ⟨#[]⟩, .string ⟨#[]⟩, .string ⟨#[]⟩] 32 (0, 0)) := by rw [← hW1]; exact World.alloc_heap_new w _
  have HA := Lib.hid (fun x w' (h : Below W1.heap.size W1 w') => (asksA x k a b b1 b2 b3 w' (((hb1.trans (h.mono hb1.size)).block _ (lt_of_block h1)).trans h1) (((hb1.trans (h.mono hb1.size)).block _ (lt_of_block h2)).trans h2) (((hb1.trans (h.mono hb1.size)).block _ (lt_of_block h3)).trans h3)).mono (R' := fun e w'' => e = .returned (.bool (pA k a b x)) ∧ Below W1.heap.size W1 w'' ∧ Below w'.heap.size w' w'') fun e w'' ⟨p, q⟩ => ⟨p, h.trans (q.mono h.size), q⟩)
  have HC := Lib.hid (fun w' (h : Below W1.heap.size W1 w') k x (hx : L[k]? = some x) j v (hv : (axC x)[j]? = some v) => cellA (((hb1.trans (h.mono hb1.size)).block _ (lt_of_block hg)).trans hg) (flatA (sz := 6) (fun _ => rfl) hx hv))
  have HM := Lib.hid (fun w' (h : Below W1.heap.size W1 w') => (h.block _ (lt_of_block hM)).trans hM)
  have HB1 := Lib.hid hb1
  generalize pA k a b = p at *
  have HW1 := Lib.hid hW1
  clear hW1 hb1 hM hg h1 h2 h3
  go_enter Try.func14, Try.ntmps14
  go_upto_region 1 with fail
  try rw [HW1.out]
  go_wp2
  go_loopw [11] (fun i wr => ∃ k : Nat, k ≤ L.length ∧ i = .int .i64 (k : Int) ∧ (L.take k).find? p = none ∧ Below W1.heap.size W1 wr) (fun i _ => L.length - (intOf i).toNat)
  case atStart => exact ⟨0, Nat.zero_le _, rfl, rfl, Below.refl _ _⟩
  case round =>
    obtain ⟨k, hk, rfl, hn, hR⟩ := hrel
    have HN := Lib.hid hn
    clear hn
    by_cases hlt : k < L.length
    · have hlt' : (k : Int) < (L.length : Int) := by omega
      have hk0 : (0 : Int) ≤ (k : Int) := by omega
      obtain ⟨x, hx⟩ : ∃ x, L[k]? = some x := ⟨_, List.getElem?_eq_getElem hlt⟩
      have c0 : wr.cell? ⟨g, k * 6, none⟩ = some (.int .i64 x.k) := HC.out _ hR k x hx 0 _ rfl
      have c1 : wr.cell? ⟨g, k * 6 + 1, none⟩ = some (.string x.a) := HC.out _ hR k x hx 1 _ rfl
      have c2 : wr.cell? ⟨g, k * 6 + 2, none⟩ = some (.string x.b) := HC.out _ hR k x hx 2 _ rfl
      have c3 : wr.cell? ⟨g, k * 6 + 3, none⟩ = some (.string x.l) := HC.out _ hR k x hx 3 _ rfl
      have c4 : wr.cell? ⟨g, k * 6 + 4, none⟩ = some (.string x.s) := HC.out _ hR k x hx 4 _ rfl
      have c5 : wr.cell? ⟨g, k * 6 + 5, none⟩ = some (.string x.r) := HC.out _ hR k x hx 5 _ rfl
      have HT := Lib.hid (show (L.take (k + 1)).find? p = if p x then some x else none by
        rw [List.take_add_one, hx, List.find?_append, HN.out]
        cases hp : p x <;> simp [hp])
      have HF := Lib.hid (show p x = true → L.find? p = some x from fun h => by
        have e := HT.out
        rw [if_pos h] at e
        rw [← List.take_append_drop (k + 1) L, List.find?_append, e]; rfl)
      have hRa := hR.alloc hR.size (.cells #[.int .i64 x.k, .string x.a, .string x.b, .string x.l, .string x.s, .string x.r] 32)
      have HAX := Lib.hid (HA.out x _ hRa)
      cases hp : p x with
      | false =>
        rw [hp] at HAX HT
        clear HF hx hp HC HA
        go_wp2_with (go_at_call 16; (with_reducible refine HAX.out.mono ?_); rintro e w5 ⟨rfl, hb5, hq5⟩)
        go_roundw
        case rel => exact ⟨k + 1, by omega, by go_num, by rw [HT.out]; rfl, by assumption⟩
        case measure => simp [intOf]; omega
      | true =>
        rw [hp] at HAX HF
        have HFX := Lib.hid (HF.out rfl)
        clear HT hx hp HC HA HF
        go_wp2_with (first
          | (go_at_call 16; (with_reducible refine HAX.out.mono ?_); rintro e w5 ⟨rfl, hb5, hq5⟩; have HM5 := Lib.hid (HM.out _ hb5); have hX5 := hb5; have HX7 := Lib.hid ((hq5.block _ (by simp)).trans (World.alloc_heap_new wr _)))
          | (refine wpList_load_row rfl _ _ rfl _ rfl _ _ _ _ HX7.out Try.underlying32 rfl sizeAx ?_)
          | (refine wpList_store_row rfl _ _ _ rfl _ _ rfl rfl _ _ HM5.out sizeAx rfl (by simp [Value.oneCell']) ?_))
        refine bodyPost_ret (results_cell_tmpA rfl _ _ w.heap.size 32 #[.int .i64 x.k, .string x.a, .string x.b, .string x.l, .string x.s, .string x.r] (0, 0) _ _ rfl rfl (setRow_heap _ _ _ _ _ _ HM5.out) Try.underlying32 rfl sizeAx) rfl ?_
        rw [HFX.out]
        exact ⟨rfl, belowA_setRow (HB1.out.trans (hX5.mono HB1.out.size)) (Nat.le_refl _) _⟩
    · obtain rfl : k = L.length := by omega
      have hlt' : ¬ (L.length : Int) < (L.length : Int) := by omega
      have HF := Lib.hid (show L.find? p = none by rw [← List.take_length (l := L)]; exact HN.out)
      have HM5 := Lib.hid ((Below.heap_alloc wr (.cells #[.int .i64 0, .string ⟨#[]⟩, .string ⟨#[]⟩, .string ⟨#[]⟩, .string ⟨#[]⟩, .string ⟨#[]⟩] 32) _ (Nat.lt_of_lt_of_le (lt_of_block (HM.out _ (Below.refl _ _))) hR.size)).trans (HM.out _ hR))
      go_wp2_with (refine wpList_store_row rfl _ _ _ rfl _ _ rfl rfl _ _ HM5.out sizeAx rfl (by simp [Value.oneCell']) ?_)
      refine bodyPost_ret (results_cell_tmpA rfl _ _ w.heap.size 32 #[.int .i64 0, .string ⟨#[]⟩, .string ⟨#[]⟩, .string ⟨#[]⟩, .string ⟨#[]⟩, .string ⟨#[]⟩] (0, 0) _ _ rfl rfl (setRow_heap _ _ _ _ _ _ HM5.out) Try.underlying32 rfl sizeAx) rfl ?_
      rw [HF.out]
      exact ⟨rfl, belowA_setRow (HB1.out.trans ((hR.alloc hR.size _).mono HB1.out.size)) (Nat.le_refl _) _⟩
def lxCV (x : Lx) : Value := .agg #[.string x.l, .string x.s, .string x.r, .string x.tl, .string x.ts, .string x.tr]
theorem sizeLx : (Try.prog.info? 35).map (·.size) = some 6 := by kernel_rfl
set_option maxRecDepth 100000 in
set_option maxHeartbeats 2000000 in
theorem asksL (x : Lx) (l s r : ByteArray) (b1 b2 b3 : Nat) (w : World) (h1 : w.heap[b1]? = some (.cells #[.string l] 9 (0, 0))) (h2 : w.heap[b2]? = some (.cells #[.string s] 9 (0, 0))) (h3 : w.heap[b3]? = some (.cells #[.string r] 9 (0, 0))) :
    Calls Try.prog 19 #[.agg #[.string x.l, .string x.s, .string x.r, .string x.tl, .string x.ts, .string x.tr], .pointer (some ⟨b1, 0, none⟩), .pointer (some ⟨b2, 0, none⟩), .pointer (some ⟨b3, 0, none⟩)] w fun e w' => e = .returned (.bool (pL l s r x)) ∧ Below w.heap.size w w' := by
  obtain ⟨z, hz⟩ : ∃ z, pL l s r x = z := ⟨_, rfl⟩
  rw [hz]
  have hB := (Below.refl w.heap.size w).alloc (Nat.le_refl _) (.cells #[.string x.l, .string x.s, .string x.r, .string x.tl, .string x.ts, .string x.tr] 35)
  have c1 := (hB.cell (p := ⟨b1, 0, none⟩) (lt_of_block h1)).trans (oneA h1)
  have c2 := (hB.cell (p := ⟨b2, 0, none⟩) (lt_of_block h2)).trans (oneA h2)
  have c3 := (hB.cell (p := ⟨b3, 0, none⟩) (lt_of_block h3)).trans (oneA h3)
  clear h1 h2 h3
  unfold pL at hz
  cases e1 : (x.l.toList == l.toList) <;> cases e2 : (x.s.toList == s.toList) <;> cases e3 : (x.r.toList == r.toList) <;> (rw [e1, e2, e3] at hz; obtain rfl : _ = z := hz) <;>
    (go_enter Try.func19, Try.ntmps19
     go_wp2
     go_ret
     exact ⟨rfl, by assumption⟩)
set_option maxRecDepth 100000 in
set_option maxHeartbeats 2000000 in
theorem foundL (L : List Lx) (g : Nat) (l s r : ByteArray) (b1 b2 b3 : Nat) (w : World) (hl : L.length ≤ 1000) (hg : w.heap[g]? = some (.cells (L.flatMap lxC).toArray 35 (0, 0))) (h1 : w.heap[b1]? = some (.cells #[.string l] 9 (0, 0))) (h2 : w.heap[b2]? = some (.cells #[.string s] 9 (0, 0))) (h3 : w.heap[b3]? = some (.cells #[.string r] 9 (0, 0))) :
    Calls Try.prog 17 #[.slice (some ⟨g, 0, none⟩) L.length L.length, .func (.func 19) #[] #[.pointer (some ⟨b1, 0, none⟩), .pointer (some ⟨b2, 0, none⟩), .pointer (some ⟨b3, 0, none⟩)]] w fun e w' => e = .returned (.tuple #[lxCV ((L.find? (pL l s r)).getD zeroLx), .bool (L.find? (pL l s r)).isSome]) ∧ Below w.heap.size w w' := by
  obtain ⟨W1, hW1⟩ : ∃ W1, w.alloc (.cells #[.string ⟨#[]⟩, .string ⟨#[]⟩, .string ⟨#[]⟩, .string ⟨#[]⟩, .string ⟨#[]⟩, .string ⟨#[]⟩] 35) = W1 := ⟨_, rfl⟩
  have hb1 : Below w.heap.size w W1 := by rw [← hW1]; exact (Below.refl _ w).alloc (Nat.le_refl _) _
  have hM : W1.heap[w.heap.size]? = some (.cells #[.string ⟨#[]⟩, .string ⟨#[]⟩, .string ⟨#[]⟩, .string ⟨#[]⟩, .string ⟨#[]⟩, .string ⟨#[]⟩] 35 (0, 0)) := by rw [← hW1]; exact World.alloc_heap_new w _
  have HA := Lib.hid (fun x w' (h : Below W1.heap.size W1 w') => (asksL x l s r b1 b2 b3 w' (((hb1.trans (h.mono hb1.size)).block _ (lt_of_block h1)).trans h1) (((hb1.trans (h.mono hb1.size)).block _ (lt_of_block h2)).trans h2) (((hb1.trans (h.mono hb1.size)).block _ (lt_of_block h3)).trans h3)).mono (R' := fun e w'' => e = .returned (.bool (pL l s r x)) ∧ Below W1.heap.size W1 w'' ∧ Below w'.heap.size w' w'') fun e w'' ⟨p, q⟩ => ⟨p, h.trans (q.mono h.size), q⟩)
  have HC := Lib.hid (fun w' (h : Below W1.heap.size W1 w') k x (hx : L[k]? = some x) j v (hv : (lxC x)[j]? = some v) => cellA (((hb1.trans (h.mono hb1.size)).block _ (lt_of_block hg)).trans hg) (flatA (sz := 6) (fun _ => rfl) hx hv))
  have HM := Lib.hid (fun w' (h : Below W1.heap.size W1 w') => (h.block _ (lt_of_block hM)).trans hM)
  have HB1 := Lib.hid hb1
  generalize pL l s r = p at *
  have HW1 := Lib.hid hW1
  clear hW1 hb1 hM hg h1 h2 h3
  go_enter Try.func17, Try.ntmps17
  go_upto_region 1 with fail
  try rw [HW1.out]
  go_wp2
  go_loopw [11] (fun i wr => ∃ k : Nat, k ≤ L.length ∧ i = .int .i64 (k : Int) ∧ (L.take k).find? p = none ∧ Below W1.heap.size W1 wr) (fun i _ => L.length - (intOf i).toNat)
  case atStart => exact ⟨0, Nat.zero_le _, rfl, rfl, Below.refl _ _⟩
  case round =>
    obtain ⟨k, hk, rfl, hn, hR⟩ := hrel
    have HN := Lib.hid hn
    clear hn
    by_cases hlt : k < L.length
    · have hlt' : (k : Int) < (L.length : Int) := by omega
      have hk0 : (0 : Int) ≤ (k : Int) := by omega
      obtain ⟨x, hx⟩ : ∃ x, L[k]? = some x := ⟨_, List.getElem?_eq_getElem hlt⟩
      have c0 : wr.cell? ⟨g, k * 6, none⟩ = some (.string x.l) := HC.out _ hR k x hx 0 _ rfl
      have c1 : wr.cell? ⟨g, k * 6 + 1, none⟩ = some (.string x.s) := HC.out _ hR k x hx 1 _ rfl
      have c2 : wr.cell? ⟨g, k * 6 + 2, none⟩ = some (.string x.r) := HC.out _ hR k x hx 2 _ rfl
      have c3 : wr.cell? ⟨g, k * 6 + 3, none⟩ = some (.string x.tl) := HC.out _ hR k x hx 3 _ rfl
      have c4 : wr.cell? ⟨g, k * 6 + 4, none⟩ = some (.string x.ts) := HC.out _ hR k x hx 4 _ rfl
      have c5 : wr.cell? ⟨g, k * 6 + 5, none⟩ = some (.string x.tr) := HC.out _ hR k x hx 5 _ rfl
      have HT := Lib.hid (show (L.take (k + 1)).find? p = if p x then some x else none by
        rw [List.take_add_one, hx, List.find?_append, HN.out]
        cases hp : p x <;> simp [hp])
      have HF := Lib.hid (show p x = true → L.find? p = some x from fun h => by
        have e := HT.out
        rw [if_pos h] at e
        rw [← List.take_append_drop (k + 1) L, List.find?_append, e]; rfl)
      have hRa := hR.alloc hR.size (.cells #[.string x.l, .string x.s, .string x.r, .string x.tl, .string x.ts, .string x.tr] 35)
      have HAX := Lib.hid (HA.out x _ hRa)
      cases hp : p x with
      | false =>
        rw [hp] at HAX HT
        clear HF hx hp HC HA
        go_wp2_with (go_at_call 19; (with_reducible refine HAX.out.mono ?_); rintro e w5 ⟨rfl, hb5, hq5⟩)
        go_roundw
        case rel => exact ⟨k + 1, by omega, by go_num, by rw [HT.out]; rfl, by assumption⟩
        case measure => simp [intOf]; omega
      | true =>
        rw [hp] at HAX HF
        have HFX := Lib.hid (HF.out rfl)
        clear HT hx hp HC HA HF
        go_wp2_with (first
          | (go_at_call 19; (with_reducible refine HAX.out.mono ?_); rintro e w5 ⟨rfl, hb5, hq5⟩; have HM5 := Lib.hid (HM.out _ hb5); have hX5 := hb5; have HX7 := Lib.hid ((hq5.block _ (by simp)).trans (World.alloc_heap_new wr _)))
          | (refine wpList_load_row rfl _ _ rfl _ rfl _ _ _ _ HX7.out Try.underlying35 rfl sizeLx ?_)
          | (refine wpList_store_row rfl _ _ _ rfl _ _ rfl rfl _ _ HM5.out sizeLx rfl (by simp [Value.oneCell']) ?_))
        refine bodyPost_ret (results_cell_tmpA rfl _ _ w.heap.size 35 #[.string x.l, .string x.s, .string x.r, .string x.tl, .string x.ts, .string x.tr] (0, 0) _ _ rfl rfl (setRow_heap _ _ _ _ _ _ HM5.out) Try.underlying35 rfl sizeLx) rfl ?_
        rw [HFX.out]
        exact ⟨rfl, belowA_setRow (HB1.out.trans (hX5.mono HB1.out.size)) (Nat.le_refl _) _⟩
    · obtain rfl : k = L.length := by omega
      have hlt' : ¬ (L.length : Int) < (L.length : Int) := by omega
      have HF := Lib.hid (show L.find? p = none by rw [← List.take_length (l := L)]; exact HN.out)
      have HM5 := Lib.hid ((Below.heap_alloc wr (.cells #[.string ⟨#[]⟩, .string ⟨#[]⟩, .string ⟨#[]⟩, .string ⟨#[]⟩, .string ⟨#[]⟩, .string ⟨#[]⟩] 35) _ (Nat.lt_of_lt_of_le (lt_of_block (HM.out _ (Below.refl _ _))) hR.size)).trans (HM.out _ hR))
      go_wp2_with (refine wpList_store_row rfl _ _ _ rfl _ _ rfl rfl _ _ HM5.out sizeLx rfl (by simp [Value.oneCell']) ?_)
      refine bodyPost_ret (results_cell_tmpA rfl _ _ w.heap.size 35 #[.string ⟨#[]⟩, .string ⟨#[]⟩, .string ⟨#[]⟩, .string ⟨#[]⟩, .string ⟨#[]⟩, .string ⟨#[]⟩] (0, 0) _ _ rfl rfl (setRow_heap _ _ _ _ _ _ HM5.out) Try.underlying35 rfl sizeLx) rfl ?_
      rw [HF.out]
      exact ⟨rfl, belowA_setRow (HB1.out.trans ((hR.alloc hR.size _).mono HB1.out.size)) (Nat.le_refl _) _⟩
end Go.Proofs.Ytohogofehfbjoaa
