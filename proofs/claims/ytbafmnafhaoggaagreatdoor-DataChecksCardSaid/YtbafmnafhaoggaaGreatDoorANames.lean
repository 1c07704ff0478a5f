/-
  Package check: what aliases are of, by their kinds: a map of maps whose keys are two texts: in plain words, and in memory.
-/
import Derived.Test.YtbafmnafhaoggaaGreatDoorProg
import Derived.Test.YtbafmnafhaoggaaGreatDoorChecked
import Derived.WalkKit
import Derived.Lib.Hide
import Derived.Outline
import Derived.OwnWalk
import Derived.WalkSmall
import Derived.Carry
import Derived.OneCell
import Derived.Deep.CutRange
import Derived.KernelRfl
import Derived.Maps.OwnOps
import Derived.WalkLawsBesides
import Derived.Maps.OwnSet
import Derived.Maps.Own
import Derived.DeepKeys4
import Derived.StringKeys
import Derived.WalkSpells
import Derived.RangeFuncRecord
import Derived.Deep.RegionHeld3
import Derived.Laws.Rows
namespace Go.Proofs.YtbafmnafhaoggaaGreatDoor
open Go Go.RowKit Go.Maps

/-! In plain words. -/
abbrev Kn := Int × ByteArray × ByteArray
def nm (k : Int) (a b : ByteArray) : ByteArray × ByteArray := if k = 7 then (a, b) else (a, ⟨#[]⟩)
def nmX (x : Kn) : ByteArray × ByteArray := nm x.1 x.2.1 x.2.2
def hasN (T : List Kn) (k : Int) (p : ByteArray × ByteArray) : Bool := T.any fun x => decide (x.1 = k ∧ nmX x = p)
def finalN (T : List Kn) (k : Int) (a b : ByteArray) : Bool :=
  if k = 3 then !hasN T 3 (nm 3 a b) && !hasN T 2 (nm 2 a b) else if 4 ≤ k ∧ k ≤ 7 then !hasN T k (nm k a b) else true
def nmL (p : ByteArray × ByteArray) : Lit := .string (keyBytes [.string p.1.data.toList, .string p.2.data.toList])
theorem length_bytesLE : ∀ (w n : Nat), (bytesLE w n).length = w
  | 0, _ => rfl
  | w + 1, n => by unfold bytesLE; rw [List.length_cons, length_bytesLE w]
theorem bytesLE_inj : ∀ (w : Nat) {n m : Nat}, n < 256 ^ w → m < 256 ^ w → bytesLE w n = bytesLE w m → n = m
  | 0, n, m, hn, hm, _ => by rw [Nat.pow_zero] at hn hm; omega
  | w + 1, n, m, hn, hm, h => by
    unfold bytesLE at h
    injection h with h1 h2
    have e1 : n % 256 = m % 256 := by
      have := congrArg UInt8.toNat h1
      rw [UInt8.toNat_ofNat', UInt8.toNat_ofNat'] at this
      omega
    have e2 : n / 256 = m / 256 := bytesLE_inj w (by rw [Nat.pow_succ] at hn; omega) (by rw [Nat.pow_succ] at hm; omega) h2
    omega
theorem bytesBE_inj {w n m : Nat} (hn : n < 256 ^ w) (hm : m < 256 ^ w) (h : bytesBE w n = bytesBE w m) : n = m := by
  unfold bytesBE at h
  exact bytesLE_inj w hn hm (List.reverse_inj.1 h)
theorem length_bytesBE (w n : Nat) : (bytesBE w n).length = w := by unfold bytesBE; rw [List.length_reverse, length_bytesLE]
theorem keyBytes_two (a b : List UInt8) : keyBytes [.string a, .string b] = bytesBE 8 a.length ++ (a ++ (bytesBE 8 b.length ++ b)) := by
  simp [keyBytes, Lit.keyBytes, List.append_assoc]
theorem nmL_inj {p q : ByteArray × ByteArray} (h1 : p.1.size ≤ maxLen) (h2 : p.2.size ≤ maxLen) (h3 : q.1.size ≤ maxLen) (h4 : q.2.size ≤ maxLen) (h : nmL p = nmL q) : p = q := by
  unfold nmL at h
  injection h with h
  rw [keyBytes_two, keyBytes_two] at h
  have hb : maxLen < 256 ^ 8 := by decide
  have l : ∀ s : ByteArray, s.data.toList.length = s.size := fun s => by rw [Array.length_toList]; rfl
  obtain ⟨e1, h⟩ := List.append_inj h (by rw [length_bytesBE, length_bytesBE])
  have e1 := bytesBE_inj (by rw [l]; omega) (by rw [l]; omega) e1
  obtain ⟨e2, h⟩ := List.append_inj h e1
  obtain ⟨_, e4⟩ := List.append_inj h (by rw [length_bytesBE, length_bytesBE])
  obtain ⟨p1, p2⟩ := p
  obtain ⟨q1, q2⟩ := q
  have d1 : p1 = q1 := by cases p1; cases q1; simp at e2; simp [e2]
  have d2 : p2 = q2 := by cases p2; cases q2; simp at e4; simp [e4]
  rw [d1, d2]
theorem nmL_key (p : ByteArray × ByteArray) : WideAt.IsKeyLit (nmL p) := by simp [nmL, WideAt.IsKeyLit]
def Fits (T : List Kn) : Prop := ∀ x ∈ T, (Lit.int .i64 x.1).wf = true ∧ x.2.1.size ≤ maxLen ∧ x.2.2.size ≤ maxLen
theorem nm_size {k : Int} {a b : ByteArray} (ha : a.size ≤ maxLen) (hb : b.size ≤ maxLen) : (nm k a b).1.size ≤ maxLen ∧ (nm k a b).2.size ≤ maxLen := by
  unfold nm
  split
  · exact ⟨ha, hb⟩
  · exact ⟨ha, by show (0 : Nat) ≤ maxLen; unfold maxLen; omega⟩
def keysN (T : List Kn) (k : Int) : List Lit := (T.filter fun x => decide (x.1 = k)).map fun x => nmL (nmX x)
def setN (T : List Kn) (k : Int) : DataW Unit := setOf (.lit (.bool true)) (keysN T k)
theorem keysN_lits (T : List Kn) (k : Int) : ∀ x ∈ keysN T k, WideAt.IsKeyLit x := fun x hx => by obtain ⟨y, _, rfl⟩ := List.mem_map.1 hx; exact nmL_key _
theorem keysN_snoc (T : List Kn) (x : Kn) (k : Int) : keysN (T ++ [x]) k = keysN T k ++ (if x.1 = k then [nmL (nmX x)] else []) := by
  unfold keysN
  rw [List.filter_append, List.map_append]
  by_cases h : x.1 = k <;> simp [h]
theorem setN_snoc_eq (T : List Kn) (x : Kn) : setN (T ++ [x]) x.1 = (setN T x.1).put (nmL (nmX x)) (.lit (.bool true)) := by
  unfold setN
  rw [keysN_snoc, if_pos rfl, setOf_snoc]
theorem setN_snoc_ne (T : List Kn) {x : Kn} {k : Int} (h : x.1 ≠ k) : setN (T ++ [x]) k = setN T k := by
  unfold setN
  rw [keysN_snoc, if_neg h, List.append_nil]
open Classical in
theorem at_setOf (u z : DataW Unit) (k : Lit) : ∀ (acc : List Lit), (∀ x ∈ acc, WideAt.IsKeyLit x) → (setOf u acc.reverse).atKey k z = if k ∈ acc then u else z := by
  intro acc
  induction acc with
  | nil => intro _; rfl
  | cons x r ih =>
    intro h
    rw [List.reverse_cons, setOf_snoc]
    have hr : ∀ y ∈ r.reverse, WideAt.IsKeyLit y := fun y hy => h y (List.mem_cons_of_mem _ (List.mem_reverse.1 hy))
    by_cases e : k = x
    · subst e
      rw [atKey_put_same (tidy_setOf _ _ hr).isMap (h k (by simp))]
      simp
    · rw [atKey_put_other e, ih (fun y hy => h y (List.mem_cons_of_mem _ hy))]
      simp [e]
open Classical in
theorem setN_at {T : List Kn} {k : Int} {p : ByteArray × ByteArray} (hT : Fits T) (h1 : p.1.size ≤ maxLen) (h2 : p.2.size ≤ maxLen) : (setN T k).atKey (nmL p) (.lit (.bool false)) = .lit (.bool (hasN T k p)) := by
  unfold setN
  have e := at_setOf (.lit (.bool true)) (.lit (.bool false)) (nmL p) (keysN T k).reverse (fun x hx => keysN_lits T k x (List.mem_reverse.1 hx))
  rw [List.reverse_reverse] at e
  rw [e]
  have hm : nmL p ∈ (keysN T k).reverse ↔ hasN T k p = true := by
    rw [List.mem_reverse]
    unfold keysN hasN
    rw [List.mem_map, List.any_eq_true]
    constructor
    · rintro ⟨x, hx, hp⟩
      obtain ⟨hx, hk⟩ := List.mem_filter.1 hx
      obtain ⟨_, s1, s2⟩ := hT x hx
      have hs := nm_size (k := x.1) s1 s2
      exact ⟨x, hx, decide_eq_true ⟨of_decide_eq_true hk, nmL_inj hs.1 hs.2 h1 h2 hp⟩⟩
    · rintro ⟨x, hx, hp⟩
      obtain ⟨hk, hp⟩ := of_decide_eq_true hp
      exact ⟨x, List.mem_filter.2 ⟨hx, decide_eq_true hk⟩, by rw [hp]⟩
  cases hb : hasN T k p with
  | true => rw [if_pos (hm.2 hb)]
  | false => rw [if_neg (fun h => by rw [hm.1 h] at hb; cases hb)]
/-- Which kind has which block. -/
def outD (G : List (Int × Nat)) : DataW Unit := G.foldl (fun D p => D.put (.int .i64 p.1) (.lit (.int .i64 (p.2 : Int)))) (.map [])
theorem outD_snoc (G : List (Int × Nat)) (p : Int × Nat) : outD (G ++ [p]) = (outD G).put (.int .i64 p.1) (.lit (.int .i64 (p.2 : Int))) := by simp [outD, List.foldl_append]
theorem outD_tidy (G : List (Int × Nat)) : Tidy (outD G) := by
  have : ∀ r : List (Int × Nat), Tidy (outD r.reverse) := fun r => by
    induction r with
    | nil => exact tidy_empty
    | cons a r ih => rw [List.reverse_cons, outD_snoc]; exact ih.put (by simp [WideAt.IsKeyLit]) _
  have h := this G.reverse
  rwa [List.reverse_reverse] at h
theorem outD_none (k : Int) : ∀ (r : List (Int × Nat)), (∀ p ∈ r, p.1 ≠ k) → (outD r.reverse).atKey (.int .i64 k) (.lit (.int .i64 (-1))) = .lit (.int .i64 (-1)) := by
  intro r
  induction r with
  | nil => intro _; rfl
  | cons a r ih =>
    intro h
    rw [List.reverse_cons, outD_snoc, atKey_put_other (fun e => h a (by simp) (by injection e with _ e; exact e.symm)), ih (fun p hp => h p (List.mem_cons_of_mem _ hp))]
theorem outD_some {k : Int} {b : Nat} : ∀ (r : List (Int × Nat)), (r.map (·.1)).Nodup → (k, b) ∈ r → (outD r.reverse).atKey (.int .i64 k) (.lit (.int .i64 (-1))) = .lit (.int .i64 (b : Int)) := by
  intro r
  induction r with
  | nil => intro _ h; cases h
  | cons a r ih =>
    intro hn hm
    rw [List.reverse_cons, outD_snoc]
    rw [List.map_cons, List.nodup_cons] at hn
    rcases List.mem_cons.1 hm with rfl | hm
    · rw [atKey_put_same (outD_tidy _).isMap (by simp [WideAt.IsKeyLit])]
    · have hne : k ≠ a.1 := fun e => hn.1 (by rw [← e]; exact List.mem_map.2 ⟨_, hm, rfl⟩)
      rw [atKey_put_other (fun e => hne (by injection e)), ih hn.2 hm]

/-! In memory. -/
def mapR (v : Value) : Option (DataW Unit × List MemPlace) :=
  match v with
  | .map (some b) => some (.lit (.int .i64 (b : Int)), [])
  | .map none => some (.lit (.int .i64 (-1)), [])
  | _ => none
theorem mapR_some {v : Value} {b : Nat} {ps : List MemPlace} (h : mapR v = some (.lit (.int .i64 (b : Int)), ps)) : v = .map (some b) := by
  unfold mapR at h
  split at h
  · rename_i c
    simp only [Option.some.injEq, Prod.mk.injEq, DataW.lit.injEq, Lit.int.injEq, true_and] at h
    have := h.1
    obtain rfl : c = b := by omega
    rfl
  · simp only [Option.some.injEq, Prod.mk.injEq, DataW.lit.injEq, Lit.int.injEq, true_and] at h
    have := h.1
    omega
  · cases h
theorem mapR_none {v : Value} {ps : List MemPlace} (h : mapR v = some (.lit (.int .i64 (-1)), ps)) : v = .map none := by
  unfold mapR at h
  split at h
  · simp only [Option.some.injEq, Prod.mk.injEq, DataW.lit.injEq, Lit.int.injEq, true_and] at h
    have := h.1
    omega
  · rfl
  · cases h
set_option maxRecDepth 100000 in
theorem laidOutN : laidOutB Tryz.prog = true := by kernel_rfl
set_option maxRecDepth 100000 in
theorem nameKeyed : Keyed Tryz.prog 131 := Keyed.of_law (deep_law_laid laidOutN (m := 2) (by omega) (of_decide_eq_true (by kernel_rfl)) (by kernel_rfl) (by kernel_rfl))
theorem kindKeyed : Keyed Tryz.prog 3 := int_keyed Tryz.underlying3
theorem nameType : Tryz.prog.keyType 131 = true := by kernel_rfl
theorem cellsName : Tryz.prog.cellsOf 131 = 2 := by kernel_rfl
theorem cellsStrN : Tryz.prog.cellsOf 9 = 1 := by kernel_rfl
theorem typesN : ∃ m, Tryz.prog.types.size + 1 = m + 2 := ⟨Tryz.prog.types.size - 1, by have : 1 ≤ Tryz.prog.types.size := of_decide_eq_true (by kernel_rfl); omega⟩
set_option maxRecDepth 100000 in
theorem keyName {a b : ByteArray} (ha : a.size ≤ maxLen) (hb : b.size ≤ maxLen) : keyOf Tryz.prog 131 (.agg #[.string a, .string b]) = some (nmL (a, b)) := by
  have hu := Tryz.underlying131
  have hs := Tryz.underlying9
  obtain ⟨m, hm⟩ := typesN
  have hf : (Value.agg #[.string a, .string b]).formed Tryz.prog 131 = true := by simp [Value.formed, hu, cellsName]
  unfold keyOf
  rw [hu]
  simp only [nameType, hf, hm, Bool.and_self, if_true]
  have r2 : List.range 2 = [0, 1] := rfl
  simp [Program.keyLits, hu, hs, cellsName, cellsStrN, Value.cells, r2, ha, hb, nmL]

theorem ownsMap_blockN {P : Program} {k : TypeId} {R : Value → Option (DataW Unit × List MemPlace)} {w w' : World} {b n : Nat} {D : DataW Unit} (h : w.ownsMap P k R b n D) (e : w'.heap[b]? = w.heap[b]?) : w'.ownsMap P k R b n D := by
  obtain ⟨es, clock, hb, r⟩ := h
  exact ⟨es, clock, by rw [e]; exact hb, r⟩
/-- The names of so many aliases: a block for each kind. -/
structure NamesI (w wr : World) (M : Nat) (T : List Kn) (G : List (Int × Nat)) : Prop where
  out : wr.ownsMap Tryz.prog 3 mapR M G.length (outD G.reverse)
  inn : ∀ p ∈ G, wr.ownsMap Tryz.prog 131 (plainElem (H := Unit) Tryz.prog 4) p.2 T.length (setN T p.1)
  kd : (G.map (·.1)).Nodup
  bd : (G.map (·.2)).Nodup
  hi : ∀ p ∈ G, M < p.2
  cov : ∀ x ∈ T, ∃ b, (x.1, b) ∈ G
  len : G.length ≤ T.length + 1
  bel : Below w.heap.size w wr
  lM : w.heap.size ≤ M
theorem NamesI.below {w wr w' : World} {M : Nat} {T : List Kn} {G : List (Int × Nat)} (h : NamesI w wr M T G) (hb : Below wr.heap.size wr w') : NamesI w w' M T G :=
  { h with out := ownsMap_blockN h.out (hb.block _ h.out.lt), inn := fun p hp => ownsMap_blockN (h.inn p hp) (hb.block _ (h.inn p hp).lt), bel := h.bel.trans (hb.mono h.bel.size) }
set_option maxRecDepth 100000 in
theorem NamesI.start (w w1 : World) (hb : Below w.heap.size w w1) : NamesI w (w1.alloc (.map #[] 0)) w1.heap.size [] [] :=
  ⟨World.ownsMap_made w1 _ _ _, (fun p hp => by cases hp), List.nodup_nil, List.nodup_nil, (fun p hp => by cases hp), (fun x hx => by cases hx), Nat.zero_le _, hb.alloc hb.size _, hb.size⟩
set_option maxRecDepth 100000 in
/-- Of a kind that is new: a block of its own. -/
theorem NamesI.kind {w wr w' : World} {M : Nat} {T : List Kn} {G : List (Int × Nat)} {k : Int} (h : NamesI w wr M T G) (hk : ∀ p ∈ G, p.1 ≠ k) (hl : G.length ≤ T.length)
    (ho : w'.ownsMap Tryz.prog 3 mapR M (G.length + 1) ((outD G.reverse).put (.int .i64 k) (.lit (.int .i64 (wr.heap.size : Int))))) (hg : (wr.alloc (.map #[] 0)).grownBy w' (some M)) : NamesI w w' M T ((k, wr.heap.size) :: G) := by
  have hM := h.out.lt
  have hnew : (wr.alloc (.map #[] 0)).ownsMap Tryz.prog 131 (plainElem (H := Unit) Tryz.prog 4) wr.heap.size 0 (.map []) := World.ownsMap_made wr _ _ _
  have hT0 : setN T k = .map [] := by
    have : keysN T k = [] := by
      unfold keysN
      rw [List.map_eq_nil_iff, List.filter_eq_nil_iff]
      intro x hx
      obtain ⟨b, hb⟩ := h.cov x hx
      have := hk _ hb
      simpa using this
    unfold setN
    rw [this]
    rfl
  refine ⟨?_, ?_, ?_, ?_, ?_, ?_, ?_, ?_, h.lM⟩
  · rw [List.reverse_cons, outD_snoc]
    exact ho
  · intro p hp
    rcases List.mem_cons.1 hp with rfl | hp
    · show w'.ownsMap _ _ _ wr.heap.size T.length (setN T k)
      rw [hT0]
      exact (hnew.kept hg (by simp; omega)).mono (Nat.zero_le _)
    · have hlt := (h.inn p hp).lt
      have hne := h.hi p hp
      exact ((h.inn p hp).alloc _).kept hg (by simp; omega)
  · rw [List.map_cons, List.nodup_cons]
    refine ⟨fun hm => ?_, h.kd⟩
    obtain ⟨p, hp, he⟩ := List.mem_map.1 hm
    exact hk p hp he
  · rw [List.map_cons, List.nodup_cons]
    refine ⟨fun hm => ?_, h.bd⟩
    obtain ⟨p, hp, he⟩ := List.mem_map.1 hm
    have := (h.inn p hp).lt
    omega
  · intro p hp
    rcases List.mem_cons.1 hp with rfl | hp
    · exact hM
    · exact h.hi p hp
  · intro x hx
    obtain ⟨b, hb⟩ := h.cov x hx
    exact ⟨b, List.mem_cons_of_mem _ hb⟩
  · rw [List.length_cons]; omega
  · exact (h.bel.alloc h.bel.size _).grown hg (by simp; have := h.bel.size; omega) (fun r e => by cases e; exact h.lM)
set_option maxRecDepth 100000 in
/-- One more of a kind that has its block. -/
theorem NamesI.note {w wr w' : World} {M b : Nat} {T : List Kn} {G : List (Int × Nat)} {x : Kn} (h : NamesI w wr M T G) (hb : (x.1, b) ∈ G)
    (ho : w'.ownsMap Tryz.prog 131 (plainElem (H := Unit) Tryz.prog 4) b (T.length + 1) ((setN T x.1).put (nmL (nmX x)) (.lit (.bool true)))) (hg : wr.grownBy w' (some b)) : NamesI w w' M (T ++ [x]) G := by
  have hMb := h.hi _ hb
  refine ⟨h.out.kept hg (by simp; omega), ?_, h.kd, h.bd, h.hi, ?_, by rw [List.length_append]; have := h.len; simp; omega, ?_, h.lM⟩
  · intro p hp
    rw [List.length_append]
    by_cases e : p.1 = x.1
    · have : p = (x.1, b) := by
        have h1 : ∀ (r : List (Int × Nat)), (r.map (·.1)).Nodup → ∀ p q, p ∈ r → q ∈ r → p.1 = q.1 → p = q := fun r => by
          induction r with
          | nil => intro _ p q hp; cases hp
          | cons a r ih =>
            intro hn p q hp hq he
            rw [List.map_cons, List.nodup_cons] at hn
            rcases List.mem_cons.1 hp with h1 | h1 <;> rcases List.mem_cons.1 hq with h2 | h2
            · rw [h1, h2]
            · exact absurd (show a.1 ∈ r.map (·.1) from List.mem_map.2 ⟨q, h2, by rw [← h1, he]⟩) hn.1
            · exact absurd (show a.1 ∈ r.map (·.1) from List.mem_map.2 ⟨p, h1, by rw [← h2, he]⟩) hn.1
            · exact ih hn.2 p q h1 h2 he
        exact h1 G h.kd _ _ hp hb e
      subst this
      show w'.ownsMap _ _ _ b (T.length + 1) (setN (T ++ [x]) x.1)
      rw [setN_snoc_eq]
      exact ho
    · have hne : p.2 ≠ b := fun e2 => e (by
        have h1 : ∀ (r : List (Int × Nat)), (r.map (·.2)).Nodup → ∀ p q, p ∈ r → q ∈ r → p.2 = q.2 → p = q := fun r => by
          induction r with
          | nil => intro _ p q hp; cases hp
          | cons a r ih =>
            intro hn p q hp hq he
            rw [List.map_cons, List.nodup_cons] at hn
            rcases List.mem_cons.1 hp with h1 | h1 <;> rcases List.mem_cons.1 hq with h2 | h2
            · rw [h1, h2]
            · exact absurd (show a.2 ∈ r.map (·.2) from List.mem_map.2 ⟨q, h2, by rw [← h1, he]⟩) hn.1
            · exact absurd (show a.2 ∈ r.map (·.2) from List.mem_map.2 ⟨p, h1, by rw [← h2, he]⟩) hn.1
            · exact ih hn.2 p q h1 h2 he
        rw [h1 G h.bd p (x.1, b) hp hb e2])
      show w'.ownsMap _ _ _ p.2 (T.length + 1) (setN (T ++ [x]) p.1)
      rw [setN_snoc_ne T (fun e2 => e e2.symm)]
      exact ((h.inn p hp).kept hg (by simp; exact hne)).mono (Nat.le_succ _)
  · intro y hy
    rcases List.mem_append.1 hy with hy | hy
    · exact h.cov y hy
    · obtain rfl := List.mem_singleton.1 hy
      exact ⟨b, hb⟩
  · exact h.bel.grown hg h.bel.size (fun r e => by cases e; have := h.lM; omega)
set_option maxRecDepth 100000 in
theorem zero_mapN (w : World) : (zeroValue 129).run Tryz.prog w = .ok (.map none) w := by rfl
set_option maxRecDepth 100000 in
theorem zero_boolN (w : World) : (zeroValue 4).run Tryz.prog w = .ok (.bool false) w := by rfl
set_option maxRecDepth 100000 in
theorem NamesI.lookNo {w wr : World} {M : Nat} {T : List Kn} {G : List (Int × Nat)} {k : Int} (h : NamesI w wr M T G) (hw : (Lit.int .i64 k).wf = true) (hk : ∀ p ∈ G, p.1 ≠ k) :
    (Instr.lookup 68 (.map (some M)) (.int .i64 k) false).run Tryz.prog wr = .ok (.map none) wr := by
  obtain ⟨v, ps, hrun, hv⟩ := h.out.lookup kindKeyed Tryz.underlying68 (zero_mapN wr) (show mapR (.map none) = some (.lit (.int .i64 (-1)), []) from rfl) (keyOf_int_mk Tryz.underlying3 hw)
  rw [outD_none k G hk] at hv
  rw [hrun, mapR_none hv]
set_option maxRecDepth 100000 in
theorem NamesI.lookYes {w wr : World} {M b : Nat} {T : List Kn} {G : List (Int × Nat)} {k : Int} (h : NamesI w wr M T G) (hw : (Lit.int .i64 k).wf = true) (hk : (k, b) ∈ G) :
    (Instr.lookup 68 (.map (some M)) (.int .i64 k) false).run Tryz.prog wr = .ok (.map (some b)) wr := by
  obtain ⟨v, ps, hrun, hv⟩ := h.out.lookup kindKeyed Tryz.underlying68 (zero_mapN wr) (show mapR (.map none) = some (.lit (.int .i64 (-1)), []) from rfl) (keyOf_int_mk Tryz.underlying3 hw)
  rw [outD_some G h.kd hk] at hv
  rw [hrun, mapR_some hv]
set_option maxRecDepth 100000 in
theorem plainElem_bool_invN {v : Value} {z : DataW Unit × List MemPlace} (h : plainElem (H := Unit) Tryz.prog 4 v = some z) : ∃ b, v = .bool b ∧ z = (.lit (.bool b), []) := by
  unfold plainElem at h
  rw [Tryz.underlying4] at h
  cases v <;> simp at h
  exact ⟨_, rfl, h.symm⟩
/-- What a name's look-up tells, whatever the kind, in this world and later ones. -/
def LookN (w : World) (M : Nat) (T : List Kn) (k : Int) (p : ByteArray × ByteArray) : Prop := ∃ v, ∀ w', Below w.heap.size w w' → (Instr.lookup 68 (.map (some M)) (.int .i64 k) false).run Tryz.prog w' = .ok v w' ∧ (Instr.lookup 129 v (.agg #[.string p.1, .string p.2]) false).run Tryz.prog w' = .ok (.bool (hasN T k p)) w'
set_option maxRecDepth 100000 in
theorem NamesI.look {w w0 : World} {M : Nat} {T : List Kn} {G : List (Int × Nat)} {k : Int} {p : ByteArray × ByteArray} (h0 : NamesI w w0 M T G) (hT : Fits T) (hw : (Lit.int .i64 k).wf = true) (h1 : p.1.size ≤ maxLen) (h2 : p.2.size ≤ maxLen) : LookN w0 M T k p := by
  by_cases hk : ∃ b, (k, b) ∈ G
  · obtain ⟨b, hb⟩ := hk
    refine ⟨.map (some b), fun wr hbel => ?_⟩
    have h := h0.below hbel
    refine ⟨h.lookYes hw hb, ?_⟩
    obtain ⟨v, ps, hrun, hv⟩ := (h.inn _ hb).lookup nameKeyed Tryz.underlying129 (zero_boolN wr) (plainElem_bool Tryz.underlying4 false) (keyName h1 h2)
    obtain ⟨c, rfl, hc⟩ := plainElem_bool_invN hv
    simp only [Prod.mk.injEq] at hc
    have e : setN T (k, b).1 = setN T k := rfl
    rw [e, setN_at hT h1 h2] at hc
    have hc1 := hc.1
    injection hc1 with hc1
    injection hc1 with hc1
    rw [hrun, hc1]
  · have hn : ∀ q ∈ G, q.1 ≠ k := fun q hq e => hk ⟨q.2, by rw [← e]; exact hq⟩
    refine ⟨.map none, fun wr hbel => ?_⟩
    have h := h0.below hbel
    refine ⟨h.lookNo hw hn, ?_⟩
    have hf : hasN T k p = false := by
      unfold hasN
      rw [List.any_eq_false]
      intro x hx
      obtain ⟨b, hb⟩ := h0.cov x hx
      have := hn _ hb
      simp [this]
    rw [hf]
    have hkey := keyName h1 h2
    have hc := nameKeyed.check wr true hkey
    have hz : (Instr.findKey 131 (.agg #[.string p.1, .string p.2]) []).run Tryz.prog wr = .ok none wr := by
      rcases nameKeyed.find wr hkey [] (fun e he => by cases he) with ⟨h, _⟩ | ⟨j, e, _, h, _⟩
      · exact h
      · simp at h
    simp [Instr.lookup, run_underlying Tryz.underlying129, hc, hz, zero_boolN wr]
end Go.Proofs.YtbafmnafhaoggaaGreatDoor
