/-
  slices.SortFunc over rows that the call itself has made: by rising names.
-/
import Derived.Test.YtgdcdijdpflmdaaShelf
import Derived.Test.YtgdcdijdpflmdaaURead
import Derived.Sort.Grow
import Derived.Sort.WalkA
import Derived.BigQuiet
namespace Go.Proofs.Ytgdcdijdpflmdaa
open Go Go.RowKit Go.Sort Go.Lib

theorem compare_lt : ∀ a b : List UInt8, compareBytes a b < 0 ↔ a < b
  | [], [] => by simp [compareBytes]
  | [], _ :: _ => by simp [compareBytes]
  | _ :: _, [] => by simp [compareBytes]
  | a :: p, b :: q => by
    have ih := compare_lt p q
    unfold compareBytes
    rw [List.cons_lt_cons_iff]
    by_cases h : a < b
    · simp [h]
    · by_cases h2 : b < a
      · have : a ≠ b := fun e => by subst e; exact h h2
        simp [h, h2, this]
      · have : a = b := UInt8.le_antisymm (UInt8.not_lt.1 h2) (UInt8.not_lt.1 h)
        simp [this, ih]
/-- How names stand. -/
def cmpBy {α : Type} (f : α → ByteArray) (x y : α) : Int := compareBytes (f x).data.toList (f y).data.toList
theorem ltOf_by {α : Type} (f : α → ByteArray) (x y : α) : ltOf (cmpBy f) x y = ltS (f x) (f y) := by
  unfold ltOf cmpBy ltS
  exact decide_eq_decide.2 (compare_lt _ _)
theorem swo_by {α : Type} (f : α → ByteArray) : SWO (ltOf (cmpBy f)) where
  irrefl x := by rw [ltOf_by]; exact ltS_irrefl _
  trans x y z h1 h2 := by rw [ltOf_by] at *; exact ltS_trans h1 h2
  ntrans x y z h1 h2 := by rw [ltOf_by] at *; exact ltS_ntrans h1 h2
theorem sort_list {α : Type} [Inhabited α] (f : α → ByteArray) (d : Array α) :
    (insertionSort (ltOf (cmpBy f)) d 0 d.size).size = d.size ∧ (insertionSort (ltOf (cmpBy f)) d 0 d.size).toList.Perm d.toList ∧ (insertionSort (ltOf (cmpBy f)) d 0 d.size).toList.Pairwise fun a b => ltS (f b) (f a) = false := by
  obtain ⟨⟨hs, _, hp⟩, ho⟩ := insertionSort_holds (lt := ltOf (cmpBy f)) (swo_by f) d 0 d.size (Nat.zero_le _) (Nat.le_refl _)
  refine ⟨hs, ?_, ?_⟩
  · have e1 : (insertionSort (ltOf (cmpBy f)) d 0 d.size).extract 0 d.size = insertionSort (ltOf (cmpBy f)) d 0 d.size := by
      apply Array.extract_eq_self_of_le; omega
    have e2 : d.extract 0 d.size = d := by apply Array.extract_eq_self_of_le; omega
    rw [e1, e2] at hp
    exact hp
  · rw [List.pairwise_iff_getElem]
    intro i j hi hj hij
    have := ho i j (Nat.zero_le _) hij (by simpa [hs] using hj)
    rw [ltOf_by, getElem!_pos _ j (by simpa using hj), getElem!_pos _ i (by simpa using hi)] at this
    simpa using this

/-! A row of the call's own, in the sort's words. -/
theorem own_holds {w : World} {base e sz g n cap : Nat} {xs : List Value} (h : w.ownsRow base e sz (.slice (some ⟨g, 0, none⟩) n cap) n xs) : Holds id w g 0 xs.toArray ∧ g < w.heap.size ∧ base ≤ g := by
  refine ⟨fun j hj => ?_, (h.lt g rfl).2, (h.lt g rfl).1⟩
  have hj' : j < xs.length := by simpa using hj
  have := h.cells rfl j xs[j] (by simp [hj'])
  rw [Addr.add_lit] at this
  refine ⟨?_, by rw [Nat.zero_add]; exact h.frozenAt j⟩
  rw [this]
  simp [getElem!_pos, hj']
theorem own_put {w : World} {base e sz g n cap m : Nat} {os : Array Obj} {xs ys : List Value} (h : w.ownsRow base e sz (.slice (some ⟨g, 0, none⟩) n cap) n xs) (hy : ys.length = xs.length) :
    (grow (putRow id (Sort.ahead w m) g 0 ys.toArray) os).ownsRow base e sz (.slice (some ⟨g, 0, none⟩) n cap) n ys := by
  have hx := h.1
  rcases h.2 with ⟨e0, _⟩ | ⟨g', cap', cur, e0, hb, hg, hn, hm, hs, ht⟩
  · cases e0
  · injection e0 with e1 _ e3
    injection e1 with e1
    injection e1 with e1
    subst e1; subst e3
    have hcs : ys.length ≤ cur.size := by
      have := congrArg List.length ht
      simp at this
      omega
    refine ⟨by omega, .inr ⟨g, cap, putCells id 0 ys.toArray cur, rfl, hb, ?_, hn, hm, by simpa [putCells] using hs, ?_⟩⟩
    · rw [heap_grow_old _ _ (by simpa using (h.lt g rfl).2)]
      simp [putRow, mapBlock, Sort.ahead, Array.getElem?_modify, hg, onCells]
    · rw [show n * sz = ys.length by omega]
      apply List.ext_getElem?
      intro j
      by_cases hj : j < ys.length
      · rw [List.getElem?_take_of_lt hj, Array.getElem?_toList]
        simp [putCells, hj, show j < cur.size by omega]
      · rw [List.getElem?_take_eq_none (by omega), List.getElem?_eq_none (by omega)]
theorem grown_put {w : World} {g m : Nat} {os : Array Obj} (d : Array Value) : w.grownBy (grow (putRow id (Sort.ahead w m) g 0 d) os) (some g) := by
  refine ⟨rfl, rfl, rfl, by simp, fun k hk hne => ?_⟩
  rw [heap_grow_old _ _ (by simpa using hk)]
  have : g ≠ k := fun e => hne (by rw [e])
  simp [putRow, mapBlock, Sort.ahead, Array.getElem?_modify, this]
theorem put_map {α : Type} [Inhabited α] (enc : α → Value) (w : World) (g : Nat) (d : Array α) : putRow enc w g 0 d = putRow id w g 0 (d.map enc) := by
  unfold putRow
  congr 1
  funext c
  unfold putCells
  apply Array.ext_getElem?
  intro k
  simp only [Array.getElem?_mapIdx]
  cases c[k]? with
  | none => rfl
  | some x =>
    simp only [Option.map_some, Nat.zero_add, Nat.sub_zero, Array.size_map, Nat.zero_le, true_and, id]
    by_cases h : k < d.size
    · simp [h, getElem!_pos]
    · simp [h]
theorem grow_drew_grow (w : World) (a b : Nat) (os os' : Array Obj) : grow ((grow (w.drewN a) os).drewN b) os' = grow (w.drewN (a + b)) (os ++ os') := by
  unfold grow World.drewN
  simp [Array.append_assoc, Nat.add_assoc]
theorem put_drew (w : World) (g q : Nat) (d : Array Value) : (putRow id w g 0 d).drewN q = putRow id (Sort.ahead w q) g 0 d := by
  have := putRow_drewN (enc := id) w 0 q g 0 d
  rw [ahead_zero, Nat.zero_add] at this
  exact this

/-! The names, and how they are compared: texts. -/
set_option maxRecDepth 100000 in
theorem nameS_own (s : ByteArray) (w : World) : Calls Try.prog 59 #[.string s] w fun e w' => e = .returned (.string s) ∧ w' = w := by
  go_enter Try.func59, Try.ntmps59
  go_wp2
  go_ret
  exact ⟨rfl, rfl⟩
set_option maxRecDepth 100000 in
theorem cmpS_own (x y : ByteArray) (B : Nat) (w : World) (hB : w.cell? ⟨B, 0, none⟩ = some (.func (.func 59) #[] #[])) :
    Calls Try.prog 86 #[.string x, .string y, .pointer (some ⟨B, 0, none⟩)] w fun e w' => e = .returned (.int .i64 (cmpBy id x y)) ∧ ∃ q, w' = w.drewN q := by
  have NM := Lib.hid nameS_own
  have SC := Lib.hid (Try.strings_Compare x y)
  have HR := Lib.hid (show compareBytes x.data.toList y.data.toList = cmpBy id x y from rfl)
  generalize compareBytes x.data.toList y.data.toList = r at *
  go_enter Try.func86, Try.ntmps86
  go_upto_region 1 with fail
  have HQ := Lib.hid (fun (w' : World) (h : ∃ q, w' = w.drewN q) => show w'.cell? ⟨B, 0, none⟩ = some (.func (.func 59) #[] #[]) by obtain ⟨q, rfl⟩ := h; exact hB)
  have hd : ∃ q, w.drew = w.drewN q := ⟨1, rfl⟩
  have hBd : w.drew.cell? ⟨B, 0, none⟩ = some (.func (.func 59) #[] #[]) := hB
  clear hB
  go_region_held3 (fun w' => w'.cell? ⟨B, 0, none⟩ = some (.func (.func 59) #[] #[]) ∧ ∃ q, w' = w.drewN q)
    (exact ⟨by assumption, by assumption⟩)
    (first
      | (go_at_call 59; (with_reducible refine (NM.out _ _).mono ?_); rintro e w5 ⟨rfl, rfl⟩)
      | (go_at_call 87; (with_reducible refine (SC.out _).mono ?_); rintro e w5 ⟨rfl, rfl⟩))
  go_wp2_with fail
  go_ret
  exact ⟨by rw [HR.out]; rfl, by assumption⟩

theorem holds_strs {w : World} {g : Nat} {l : List ByteArray} (h : Holds id w g 0 (strs l).toArray) : Holds Value.string w g 0 l.toArray := fun j hj => by
  have hj' : j < l.length := by simpa using hj
  have := h j (by simpa [strs] using hj')
  simpa [strs, getElem!_pos, hj'] using this
set_option maxRecDepth 100000 in
set_option maxHeartbeats 2000000 in
theorem sortS_none (fv : Value) (w : World) : Calls Try.prog 85 #[.slice none 0 0, fv] w fun e w' => e = .returned (.tuple #[]) ∧ w' = w := by
  have H1 := Lib.hid (fun W => (show Calls Try.prog 126 #[.slice none 0 0, .int .i64 0, .int .i64 0, fv] W fun e w' => e = .returned (.tuple #[]) ∧ w' = W by
    go_enter Try.func126, Try.ntmps126
    go_wp2
    refine wp_loop_rounds 1 ?_
    rw [rounds_succ]
    go_wp2
    go_end0
    exact ⟨rfl, rfl⟩))
  have H2 := Lib.hid (fun lim W => (show Calls Try.prog 113 #[.slice none 0 0, .int .i64 0, .int .i64 0, .int .i64 lim, fv] W fun e w' => e = .returned (.tuple #[]) ∧ w' = W by
    go_enter Try.func113, Try.ntmps113
    go_wp2
    refine wp_loop_rounds 1 ?_
    rw [rounds_succ]
    go_wp2_with (go_at_call 126; (with_reducible refine (H1.out _).mono ?_); rintro e w' ⟨rfl, rfl⟩)
    (try simp only [Exit.inBlock, Exit.then])
    refine bodyPost_ret (results_none rfl _ _ _) rfl ?_
    exact ⟨rfl, rfl⟩))
  have HL := Lib.hid (fun W => Try.bits_Len12 0 W (by omega))
  clear H1
  go_enter Try.func85, Try.ntmps85
  go_wp2_with (first | (go_at_call 114; (refine (HL.out _).mono ?_); rintro e w' ⟨⟨l, rfl⟩, rfl⟩) | (go_at_call 113; (with_reducible refine (H2.out _ _).mono ?_); rintro e w' ⟨rfl, rfl⟩))
  go_end0
  exact ⟨rfl, rfl⟩
theorem sortS_own (base : Nat) (v : Value) (l : List ByteArray) (B : Nat) (w : World) (h : w.ownsRow base 9 1 v l.length (strs l)) (hl : l.length ≤ 12) (hB : w.cell? ⟨B, 0, none⟩ = some (.func (.func 59) #[] #[])) (hne : v.ownBlock ≠ some B) :
    Calls Try.prog 85 #[v, .func (.func 86) #[] #[.pointer (some ⟨B, 0, none⟩)]] w fun e w' => e = .returned (.tuple #[]) ∧ ∃ l', l'.Perm l ∧ (l'.Pairwise fun a b => ltS (id b) (id a) = false) ∧ w'.ownsRow base 9 1 v l'.length (strs l') ∧ w.grownBy w' v.ownBlock := by
  rcases owned_cases h with ⟨rfl, h0⟩ | ⟨g, cap, rfl⟩
  · obtain rfl : l = [] := List.eq_nil_of_length_eq_zero h0
    refine (sortS_none _ w).mono ?_
    rintro e w' ⟨rfl, rfl⟩
    exact ⟨rfl, [], List.Perm.refl _, List.Pairwise.nil, h, World.grownBy.refl _ _⟩
  · obtain ⟨hH, hlt, hb⟩ := own_holds h
    have eg : ∀ args w, (callFunc 86 args).run Try.prog w = .ok (.enter 86 args) w := enters_of Try.func86 (by kernel_rfl) rfl
    have hgB : B ≠ g := fun e => hne (by rw [e]; rfl)
    have hcmp : CmpReads Try.prog 86 #[.pointer (some ⟨B, 0, none⟩)] Value.string (cmpBy id) g 0 l.toArray.size w := fun m os dk hs x y => by
      refine cmpS_own x y B _ ?_
      unfold sortWorld
      rw [cell?_grow _ _ _ (by simpa using lt_of_cellF hB), cell?_putRow_other _ _ _ _ _ _ (Or.inl hgB)]
      exact hB
    have hc := Try.slices_SortFunc_small Value.string (fun _ => rfl) (cmpBy id) 86 #[.pointer (some ⟨B, 0, none⟩)] g 0 cap l.toArray w eg hcmp (holds_strs hH) (by simpa using hl) Try.bits_Len12
    rw [show l.toArray.size = l.length by simp] at hc
    refine hc.mono ?_
    rintro e w' ⟨rfl, n, rfl⟩
    obtain ⟨s1, s2, s3⟩ := sort_list (id : ByteArray → ByteArray) l.toArray
    rw [show l.toArray.size = l.length by simp] at s1 s2 s3
    refine ⟨rfl, (insertionSort (ltOf (cmpBy id)) l.toArray 0 l.length).toList, by simpa using s2, s3, ?_, ?_⟩
    · rw [put_map, put_drew, ← grow_empty (putRow id _ _ _ _)]
      have := own_put (m := n) (os := #[]) (ys := strs (insertionSort (ltOf (cmpBy id)) l.toArray 0 l.length).toList) h (by simp [strs, s1])
      have e : (insertionSort (ltOf (cmpBy id)) l.toArray 0 l.length).toList.length = l.length := by simp [s1]
      rw [e]
      have e2 : (strs (insertionSort (ltOf (cmpBy id)) l.toArray 0 l.length).toList).toArray = Array.map Value.string (insertionSort (ltOf (cmpBy id)) l.toArray 0 l.length) := by unfold strs; rw [← Array.toList_map]
      rw [← e2]
      exact this
    · rw [put_map, put_drew, ← grow_empty (putRow id _ _ _ _)]
      exact grown_put _

/-! Extensions, each with where its own row lies. -/
abbrev ZE := (ByteArray × List ByteArray) × (Option Addr × Nat × Nat)
def slc (t : Option Addr × Nat × Nat) : Value := .slice t.1 t.2.1 t.2.2
def encZ (z : ZE) : List Value := [.string z.1.1, slc z.2]
def zcells (Z : List ZE) : List Value := Z.flatMap encZ
theorem zcells_len (Z : List ZE) : (zcells Z).length = Z.length * 2 := by
  induction Z with
  | nil => rfl
  | cons z Z ih => unfold zcells at *; rw [List.flatMap_cons, List.length_append, ih]; simp [encZ]; omega
theorem zcells_at (Z : List ZE) (t : Nat) : (zcells Z)[t]? = (Z[t / 2]?).bind fun z => (encZ z)[t % 2]? := by
  induction Z generalizing t with
  | nil => simp [zcells]
  | cons z Z ih =>
    have e : zcells (z :: Z) = .string z.1.1 :: slc z.2 :: zcells Z := rfl
    rw [e]
    match t with
    | 0 => rfl
    | 1 => rfl
    | t + 2 =>
      rw [show (t + 2) / 2 = t / 2 + 1 by omega, show (t + 2) % 2 = t % 2 by omega]
      simpa using ih t
theorem flat_z (d : Array ZE) : flatK encZ 2 d = (zcells d.toList).toArray := by
  refine ext_get! (by simp [zcells_len]) fun t ht => ?_
  have ht' : t < d.size * 2 := by simpa using ht
  have h2 : t / 2 < d.size := by omega
  rw [get_flatK _ _ _ _ ht']
  have e := zcells_at d.toList t
  have e2 : d.toList[t / 2]? = some d[t / 2] := by simp [h2]
  rw [e2, Option.bind_some] at e
  have hl : t < (zcells d.toList).length := by rw [zcells_len]; simpa using ht'
  have hm : t % 2 < (encZ d[t / 2]).length := by simp [encZ]; omega
  rw [getElem!_pos d _ h2, getElem!_pos _ t (by simpa using hl), getElem!_pos (encZ d[t / 2]) _ hm]
  rw [List.getElem?_eq_getElem hl, List.getElem?_eq_getElem hm] at e
  simpa using (Option.some.inj e).symm
/-- A row of extensions that the call itself has made; their rows lie in an earlier world. -/
structure OwnZ (w1 w : World) (base : Nat) (v : Value) (Z : List ZE) : Prop where
  own : w.ownsRow base 53 2 v Z.length (zcells Z)
  row : ∀ z ∈ Z, RowU w1 (slc z.2) z.1.2
theorem OwnZ.ext {w1 w : World} {base : Nat} {v : Value} {Z : List ZE} (h : OwnZ w1 w base v Z) (hb : Below w1.heap.size w1 w) : ExtU w v (Z.map (·.1)) := by
  obtain ⟨h2, h3⟩ := h
  rcases owned_cases h2 with ⟨rfl, h0⟩ | ⟨g, cap, rfl⟩
  · obtain rfl : Z = [] := List.eq_nil_of_length_eq_zero h0
    exact ⟨none, 0, rfl, fun i x hx => by simp at hx⟩
  · refine ⟨some ⟨g, 0, none⟩, cap, by rw [List.length_map], fun i x hx => ?_⟩
    rw [List.getElem?_map] at hx
    cases hz : Z[i]? with
    | none => rw [hz] at hx; cases hx
    | some z =>
      rw [hz] at hx
      simp at hx
      subst hx
      have k1 := h2.cells rfl (i * 2) (.string z.1.1) (by rw [zcells_at, show i * 2 / 2 = i by omega, show i * 2 % 2 = 0 by omega, hz]; rfl)
      have k2 := h2.cells rfl (i * 2 + 1) (slc z.2) (by rw [zcells_at, show (i * 2 + 1) / 2 = i by omega, show (i * 2 + 1) % 2 = 1 by omega, hz]; rfl)
      rw [Addr.add_lit] at k1 k2
      exact ⟨g, 0, slc z.2, rfl, k1, by rw [← Nat.add_assoc] at k2; exact k2, (h3 z (List.mem_of_getElem? hz)).below hb⟩
/-- Extensions in memory, one by one. -/
theorem ExtU.at {w : World} {ao : Option Addr} {c : Nat} {L : KX} (h : ExtU w (.slice ao L.length c) L) {k : Nat} {x : ByteArray × List ByteArray} (hx : L[k]? = some x) : ∃ g o t, ao = some ⟨g, o, none⟩ ∧ w.cell? ⟨g, o + k * 2, none⟩ = some (.string x.1) ∧ w.cell? ⟨g, o + k * 2 + 1, none⟩ = some (slc t) ∧ RowU w (slc t) x.2 ∧ t.2.1 = x.2.length := by
  obtain ⟨a', c', he, hc⟩ := h
  injection he with q1 _ _
  subst q1
  obtain ⟨g, o, vs, h1, h2, h3, a, c, rfl, h4⟩ := hc k x hx
  exact ⟨g, o, (a, x.2.length, c), h1, h2, h3, ⟨a, c, rfl, h4⟩, rfl⟩

set_option maxRecDepth 100000 in
theorem nameX_own (k : ByteArray) (u : Value) (w : World) : Calls Try.prog 61 #[.agg #[.string k, u]] w fun e w' => e = .returned (.string k) ∧ w' = w.alloc (.cells #[.string k, u] 53) := by
  go_enter Try.func61, Try.ntmps61
  go_wp2
  go_ret
  exact ⟨rfl, rfl⟩
set_option maxRecDepth 100000 in
set_option maxHeartbeats 2000000 in
theorem cmpX_own (x y : ZE) (B : Nat) (w : World) (hB : w.cell? ⟨B, 0, none⟩ = some (.func (.func 61) #[] #[])) :
    Calls Try.prog 89 #[.agg #[.string x.1.1, slc x.2], .agg #[.string y.1.1, slc y.2], .pointer (some ⟨B, 0, none⟩)] w fun e w' => e = .returned (.int .i64 (cmpBy (fun z : ZE => z.1.1) x y)) ∧ ∃ q os, w' = grow (w.drewN q) os := by
  obtain ⟨⟨xk, xl⟩, xa, xn, xc⟩ := x
  obtain ⟨⟨yk, yl⟩, ya, yn, yc⟩ := y
  have NM := Lib.hid nameX_own
  have SC := Lib.hid (Try.strings_Compare xk yk)
  have HR := Lib.hid (show compareBytes xk.data.toList yk.data.toList = cmpBy (fun z : ZE => z.1.1) ((xk, xl), xa, xn, xc) ((yk, yl), ya, yn, yc) from rfl)
  simp only [slc]
  generalize compareBytes xk.data.toList yk.data.toList = r at *
  generalize cmpBy (fun z : ZE => z.1.1) ((xk, xl), xa, xn, xc) ((yk, yl), ya, yn, yc) = r2 at *
  obtain rfl : r = r2 := HR.out
  clear HR
  obtain ⟨W2, hW2⟩ : ∃ W2, (w.alloc (.cells #[.string xk, .slice xa xn xc] 53)).alloc (.cells #[.string yk, .slice ya yn yc] 53) = W2 := ⟨_, rfl⟩
  have h1 : W2.heap[w.heap.size]? = some (.cells #[.string xk, .slice xa xn xc] 53 (0, 0)) := by rw [← hW2]; exact (Below.heap_alloc _ _ _ (by simp)).trans (World.alloc_heap_new w _)
  have h2 : W2.heap[w.heap.size + 1]? = some (.cells #[.string yk, .slice ya yn yc] 53 (0, 0)) := by rw [← hW2]; exact heap_alloc2_new w _ _
  have h0 : W2.cell? ⟨B, 0, none⟩ = some (.func (.func 61) #[] #[]) := by
    rw [← hW2]
    have hl : B < w.heap.size := lt_of_cellF hB
    rw [World.cell?_of_block (a := ⟨B, 0, none⟩) ((Below.heap_alloc _ _ _ (by simp; omega)).trans (Below.heap_alloc w _ _ hl))]
    exact hB
  have hg2 : ∃ q os, W2 = grow (w.drewN q) os := ⟨0, _, by rw [← hW2, alloc_eq_grow, alloc_eq_grow, grow_grow]; rfl⟩
  have HF := Lib.hid (fun (w' : World) (q : Nat) (os : Array Obj) (h : w' = grow (W2.drewN q) os) => show w'.cell? ⟨B, 0, none⟩ = some (.func (.func 61) #[] #[]) ∧ w'.cell? ⟨w.heap.size, 0, none⟩ = some (.string xk) ∧ w'.cell? ⟨w.heap.size, 1, none⟩ = some (.slice xa xn xc) ∧ w'.cell? ⟨w.heap.size + 1, 0, none⟩ = some (.string yk) ∧ w'.cell? ⟨w.heap.size + 1, 1, none⟩ = some (.slice ya yn yc) by
    subst h
    have c1 := cell_row2 0 h1 rfl
    have c2 := cell_row2 1 h1 rfl
    have c3 := cell_row2 0 h2 rfl
    have c4 := cell_row2 1 h2 rfl
    have l0 := lt_of_cellF h0
    have l1 := lt_of_heap h1
    have l2 := lt_of_heap h2
    exact ⟨(cell?_grow _ _ _ l0).trans h0, (cell?_grow _ _ _ l1).trans c1, (cell?_grow _ _ _ l1).trans c2, (cell?_grow _ _ _ l2).trans c3, (cell?_grow _ _ _ l2).trans c4⟩)
  have HG := Lib.hid (fun (w' : World) (h : ∃ q os, w' = grow (W2.drewN q) os) => show ∃ q os, w' = grow (w.drewN q) os by
    obtain ⟨q, os, rfl⟩ := h
    obtain ⟨q2, os2, e2⟩ := hg2
    rw [e2]
    exact ⟨q2 + q, os2 ++ os, grow_drew_grow _ _ _ _ _⟩)
  clear hB h0 h1 h2 hg2
  go_enter Try.func89, Try.ntmps89
  go_upto_region 1 with fail
  clear hW2
  obtain ⟨d0, d1, d2, d3, d4⟩ := HF.out W2.drew 1 #[] (by rw [grow_empty]; rfl)
  have dG : ∃ q os, W2.drew = grow (W2.drewN q) os := ⟨1, #[], by rw [grow_empty]; rfl⟩
  go_region_held3 (fun w' => w'.cell? ⟨B, 0, none⟩ = some (.func (.func 61) #[] #[]) ∧ w'.cell? ⟨w.heap.size, 0, none⟩ = some (.string xk) ∧ w'.cell? ⟨w.heap.size, 1, none⟩ = some (.slice xa xn xc) ∧ w'.cell? ⟨w.heap.size + 1, 0, none⟩ = some (.string yk) ∧ w'.cell? ⟨w.heap.size + 1, 1, none⟩ = some (.slice ya yn yc) ∧ ∃ q os, w' = grow (W2.drewN q) os)
    (exact ⟨by assumption, by assumption, by assumption, by assumption, by assumption, by assumption⟩)
    (first
      | (go_at_call 61; (with_reducible refine (NM.out _ _ _).mono ?_); rintro e w5 ⟨rfl, hw5⟩; have dG : ∃ q os, w5 = grow (W2.drewN q) os := (by obtain ⟨q, os, e⟩ := dG; exact ⟨q, os ++ _, by rw [hw5, e, alloc_eq_grow, grow_grow]⟩); clear hw5; obtain ⟨q, os, eW⟩ := dG; obtain ⟨d0, d1, d2, d3, d4⟩ := HF.out _ q os eW; have dG : ∃ q os, w5 = grow (W2.drewN q) os := ⟨q, os, eW⟩; clear eW)
      | (go_at_call 87; (with_reducible refine (SC.out _).mono ?_); rintro e w5 ⟨rfl, rfl⟩))
  go_wp2_with fail
  go_ret
  exact ⟨rfl, HG.out _ (by assumption)⟩
set_option maxRecDepth 100000 in
set_option maxHeartbeats 2000000 in
theorem sortX_none (fv : Value) (w : World) : Calls Try.prog 88 #[.slice none 0 0, fv] w fun e w' => e = .returned (.tuple #[]) ∧ w' = w := by
  have H1 := Lib.hid (fun W => (show Calls Try.prog 137 #[.slice none 0 0, .int .i64 0, .int .i64 0, fv] W fun e w' => e = .returned (.tuple #[]) ∧ w' = W by
    go_enter Try.func137, Try.ntmps137
    go_wp2
    refine wp_loop_rounds 1 ?_
    rw [rounds_succ]
    go_wp2
    go_end0
    exact ⟨rfl, rfl⟩))
  have H2 := Lib.hid (fun lim W => (show Calls Try.prog 116 #[.slice none 0 0, .int .i64 0, .int .i64 0, .int .i64 lim, fv] W fun e w' => e = .returned (.tuple #[]) ∧ w' = W by
    go_enter Try.func116, Try.ntmps116
    go_wp2
    refine wp_loop_rounds 1 ?_
    rw [rounds_succ]
    go_wp2_with (go_at_call 137; (with_reducible refine (H1.out _).mono ?_); rintro e w' ⟨rfl, rfl⟩)
    (try simp only [Exit.inBlock, Exit.then])
    refine bodyPost_ret (results_none rfl _ _ _) rfl ?_
    exact ⟨rfl, rfl⟩))
  have HL := Lib.hid (fun W => Try.bits_Len12 0 W (by omega))
  clear H1
  go_enter Try.func88, Try.ntmps88
  go_wp2_with (first | (go_at_call 114; (refine (HL.out _).mono ?_); rintro e w' ⟨⟨l, rfl⟩, rfl⟩) | (go_at_call 116; (with_reducible refine (H2.out _ _).mono ?_); rintro e w' ⟨rfl, rfl⟩))
  go_end0
  exact ⟨rfl, rfl⟩
theorem encZ_one : ∀ x : ZE, ∀ v ∈ encZ x, v.oneCell' = true := by
  intro x v hv
  simp [encZ, slc] at hv
  rcases hv with rfl | rfl <;> rfl
theorem sortX_own (base : Nat) (v : Value) (Z : List ZE) (B : Nat) (w1 w : World) (h : OwnZ w1 w base v Z) (hl : Z.length ≤ 12) (hB : w.cell? ⟨B, 0, none⟩ = some (.func (.func 61) #[] #[])) (hne : v.ownBlock ≠ some B) :
    Calls Try.prog 88 #[v, .func (.func 89) #[] #[.pointer (some ⟨B, 0, none⟩)]] w fun e w' => e = .returned (.tuple #[]) ∧ ∃ Z' : List ZE, Z'.Perm Z ∧ (Z'.Pairwise fun a b => ltS b.1.1 a.1.1 = false) ∧ OwnZ w1 w' base v Z' ∧ w.grownBy w' v.ownBlock := by
  obtain ⟨ho, hr⟩ := h
  rcases owned_cases ho with ⟨rfl, h0⟩ | ⟨g, cap, rfl⟩
  · obtain rfl : Z = [] := List.eq_nil_of_length_eq_zero h0
    refine (sortX_none _ w).mono ?_
    rintro e w' ⟨rfl, rfl⟩
    exact ⟨rfl, [], List.Perm.refl _, List.Pairwise.nil, ⟨ho, hr⟩, World.grownBy.refl _ _⟩
  · obtain ⟨hH, hlt, hb⟩ := own_holds ho
    have eg : ∀ args w, (callFunc 89 args).run Try.prog w = .ok (.enter 89 args) w := enters_of Try.func89 (by kernel_rfl) rfl
    have hgB : B ≠ g := fun e => hne (by rw [e]; rfl)
    have hsz : Z.toArray.size = Z.length := by simp
    have hcmp : CmpLays Try.prog 89 #[.pointer (some ⟨B, 0, none⟩)] encZ 2 (cmpBy fun z : ZE => z.1.1) g 0 Z.toArray.size w := fun m os dk hs x y => by
      refine cmpX_own x y B _ ?_
      unfold sortWorldK
      rw [cell?_grow _ _ _ (by simpa [putRowK] using lt_of_cellF hB), cell?_putRowK_other _ _ _ _ _ _ _ hgB]
      exact hB
    have hHK : HoldsK encZ 2 w g 0 Z.toArray := by unfold HoldsK; rw [flat_z]; exact hH
    have hc := Try.sortExt_small encZ (fun _ => rfl) encZ_one (cmpBy fun z : ZE => z.1.1) 89 #[.pointer (some ⟨B, 0, none⟩)] g 0 cap Z.toArray w eg hcmp hHK hlt (by simpa using hl)
    rw [hsz] at hc
    refine hc.mono ?_
    rintro e w' ⟨rfl, n, os, rfl⟩
    obtain ⟨s1, s2, s3⟩ := sort_list (fun z : ZE => z.1.1) Z.toArray
    rw [hsz] at s1 s2 s3
    have hw : sortWorldK encZ 2 w g 0 n (insertionSort (ltOf (cmpBy fun z : ZE => z.1.1)) Z.toArray 0 Z.length) os = grow (putRow id (Sort.ahead w n) g 0 (zcells (insertionSort (ltOf (cmpBy fun z : ZE => z.1.1)) Z.toArray 0 Z.length).toList).toArray) os := by
      unfold sortWorldK putRowK
      rw [flat_z]
    rw [hw]
    have s2' : (insertionSort (ltOf (cmpBy fun z : ZE => z.1.1)) Z.toArray 0 Z.length).toList.Perm Z := by simpa using s2
    refine ⟨rfl, (insertionSort (ltOf (cmpBy fun z : ZE => z.1.1)) Z.toArray 0 Z.length).toList, s2', s3, ⟨?_, fun z hz => hr z (s2'.subset hz)⟩, grown_put _⟩
    have := own_put (m := n) (os := os) (ys := zcells (insertionSort (ltOf (cmpBy fun z : ZE => z.1.1)) Z.toArray 0 Z.length).toList) ho (by rw [zcells_len, zcells_len, s2'.length_eq])
    rw [s2'.length_eq]
    exact this
end Go.Proofs.Ytgdcdijdpflmdaa
