/-
  A region that draws its order, whose operations make memory, in any number: one law, by what each operation leaves in its slot (no ways are told apart). No dump.
-/
import Derived.WalkKit
import Derived.RegionTactic
import Derived.OwnWalk
import Derived.Below
namespace Go.Proofs.YtpnhjpplfjamkaaGreatDoor
open Go Go.RowKit

/-- Slots filled, those that p tells. -/
def putLF (dst : Nat → Option Tmp) (vals : Nat → Value) (p : Nat → Bool) : List Nat → Act → Act
  | [], a => a
  | j :: r, a => putLF dst vals p r (if p j then a.put (dst j) (vals j) else a)
theorem putL_congr {dst : Nat → Option Tmp} {v1 v2 : Nat → Value} {p q : Nat → Bool} : ∀ (R : List Nat) (a : Act), (∀ j ∈ R, p j = q j ∧ v1 j = v2 j) → putLF dst v1 p R a = putLF dst v2 q R a
  | [], _, _ => rfl
  | j :: r, a, h => by
    unfold putLF
    rw [(h j (List.mem_cons_self ..)).1, (h j (List.mem_cons_self ..)).2]
    exact putL_congr r _ fun k hk => h k (List.mem_cons_of_mem _ hk)
theorem putL_put {dst : Nat → Option Tmp} {vals : Nat → Value} {p : Nat → Bool} {d : Option Tmp} {v : Value} : ∀ (R : List Nat) (a : Act), (∀ j ∈ R, ∀ t, d = some t → dst j ≠ some t) → putLF dst vals p R (a.put d v) = (putLF dst vals p R a).put d v
  | [], _, _ => rfl
  | j :: r, a, h => by
    unfold putLF
    cases p j with
    | false => exact putL_put r a fun k hk => h k (List.mem_cons_of_mem _ hk)
    | true =>
      simp only [if_true]
      rw [Act.put_comm a v (vals j) (fun t ht => h j (List.mem_cons_self ..) t ht)]
      exact putL_put r _ fun k hk => h k (List.mem_cons_of_mem _ hk)
theorem putL_one {dst : Nat → Option Tmp} {vals vals' : Nat → Value} {p q : Nat → Bool} {i : Nat} (hd : ∀ j, j ≠ i → ∀ t, dst i = some t → dst j ≠ some t) (hp : p i = false) (hq : ∀ j, q j = (p j || decide (j = i))) (hv : ∀ j, j ≠ i → vals' j = vals j) :
    ∀ (R : List Nat) (a : Act), R.Nodup → i ∈ R → putLF dst vals' q R a = (putLF dst vals p R a).put (dst i) (vals' i)
  | [], _, _, h => by cases h
  | j :: r, a, hn, h => by
    rw [List.nodup_cons] at hn
    unfold putLF
    by_cases hj : j = i
    · subst hj
      rw [hp, hq, decide_eq_true rfl, Bool.or_true, if_pos rfl, if_neg (by simp)]
      rw [putL_put r a (fun k hk => hd k (fun e => hn.1 (e ▸ hk)))]
      rw [putL_congr (v1 := vals') (v2 := vals) (p := q) (q := p) r a (fun k hk => by
        have : k ≠ j := fun e => hn.1 (e ▸ hk)
        exact ⟨by rw [hq, decide_eq_false this, Bool.or_false], hv k this⟩)]
    · rw [hq, decide_eq_false hj, Bool.or_false, hv j hj]
      exact putL_one hd hp hq hv r _ hn.2 ((List.mem_cons.1 h).resolve_left (fun e => hj e.symm))
theorem put_size (a : Act) (d : Option Tmp) (v : Value) : (a.put d v).tmps.size = a.tmps.size := by
  cases d <;> simp [Act.put]
theorem put_other (a : Act) {d : Option Tmp} (v : Value) {t : Tmp} (h : d ≠ some t) : (a.put d v).tmps.getD t undef = a.tmps.getD t undef := by
  cases d with
  | none => rfl
  | some d =>
    have : d ≠ t := fun e => h (by rw [e])
    simp [Act.put, Array.getElem?_setIfInBounds_ne this]
theorem put_this (a : Act) (v : Value) {t : Tmp} (h : t < a.tmps.size) : (a.put (some t) v).tmps.getD t undef = v := by
  simp [Act.put, h]
theorem putL_other {dst : Nat → Option Tmp} {vals : Nat → Value} {p : Nat → Bool} {t : Tmp} : ∀ (R : List Nat) (a : Act), (∀ j ∈ R, p j = true → dst j ≠ some t) → (putLF dst vals p R a).tmps.getD t undef = a.tmps.getD t undef
  | [], _, _ => rfl
  | j :: r, a, h => by
    unfold putLF
    rw [putL_other r _ fun k hk => h k (List.mem_cons_of_mem _ hk)]
    cases hp : p j with
    | false => rfl
    | true => exact put_other a _ (h j (List.mem_cons_self ..) hp)
theorem putL_this {dst : Nat → Option Tmp} {vals : Nat → Value} {p : Nat → Bool} {t : Tmp} {i : Nat} (hi : dst i = some t) (hd : ∀ j, j ≠ i → dst j ≠ some t) (hp : p i = true) :
    ∀ (R : List Nat) (a : Act), R.Nodup → i ∈ R → t < a.tmps.size → (putLF dst vals p R a).tmps.getD t undef = vals i
  | [], _, _, h, _ => by cases h
  | j :: r, a, hn, h, ht => by
    rw [List.nodup_cons] at hn
    unfold putLF
    by_cases hj : j = i
    · subst hj
      rw [putL_other r _ (fun k hk _ => hd k (fun e => hn.1 (e ▸ hk))), hp, if_pos rfl, hi]
      exact put_this a _ ht
    · refine putL_this hi hd hp r _ hn.2 ((List.mem_cons.1 h).resolve_left (fun e => hj e.symm)) ?_
      split
      · rw [put_size]; exact ht
      · exact ht
theorem cnt_one {p q : Nat → Bool} {i : Nat} (hp : p i = true) (hq : ∀ j, q j = (p j && !decide (j = i))) : ∀ R : List Nat, R.Nodup → i ∈ R → R.countP q + 1 = R.countP p
  | [], _, h => by cases h
  | j :: r, hn, h => by
    rw [List.nodup_cons] at hn
    by_cases hj : j = i
    · subst hj
      have e : r.countP q = r.countP p := List.countP_congr fun k hk => by
        have : k ≠ j := fun e => hn.1 (e ▸ hk)
        rw [hq, decide_eq_false this]; simp
      rw [List.countP_cons, List.countP_cons, hq, decide_eq_true rfl, hp, e]
      simp
    · have ih := cnt_one hp hq r hn.2 ((List.mem_cons.1 h).resolve_left (fun e => hj e.symm))
      rw [List.countP_cons, List.countP_cons, hq j, decide_eq_false hj]
      simp only [Bool.not_false, Bool.and_true]
      omega

section
variable {P : Program} {ops : Array Oper} {Q : Exit → Act → World → Prop} {md : Region.Mode}
/-- Where an operation lays its value; which ones it waits for. -/
def dstOf (ops : Array Oper) (j : Nat) : Option Tmp := (ops[j]?).bind (·.dst)
def depOf (md : Region.Mode) (ops : Array Oper) (i j : Nat) : Bool := ((ops[i]?).map fun o => o.after.any fun e => Region.binds md e && e.on == j).getD false
def noDst (ops : Array Oper) (z : Nat) (t : Tmp) : Bool := (List.range (z + 1)).all fun j => dstOf ops j != some t
/-- Its plain facts: each waits for elder ones alone; each but the last is waited for; slots are apart, and there are so many. -/
def regionFits (md : Region.Mode) (ops : Array Oper) (n z : Nat) : Bool :=
  ops.size == z + 1 && (List.range (z + 1)).all fun i => ((List.range (z + 1)).all fun j => decide (i = j) || dstOf ops i == none || dstOf ops i != dstOf ops j) && (((ops[i]?).map fun o => o.after.all fun e => !Region.binds md e || decide (e.on < i)).getD true)
    && (decide (i = z) || (List.range (z + 1)).any fun k => decide (i < k) && depOf md ops k i) && (match dstOf ops i with | some t => decide (t < n) | none => true)

theorem grownF_trans {a b c : World} {row : Option Nat} (h : a.grownBy b row) (k : b.grownBy c row) : a.grownBy c row :=
  ⟨k.os.trans h.os, k.tape.trans h.tape, k.output.trans h.output, Nat.le_trans h.size k.size, fun i hi hne => (k.block i (Nat.lt_of_lt_of_le hi h.size) hne).trans (h.block i hi hne)⟩
theorem belowF_of {a b : World} (h : a.grownBy b none) : Below a.heap.size a b := ⟨h.os, h.tape, h.output, h.size, fun k hk => h.block k hk (by simp)⟩
theorem grownF_of {a b : World} {row : Option Nat} (h : Below a.heap.size a b) : a.grownBy b row := ⟨h.os, h.tape, h.output, h.size, fun k hk _ => h.block k hk⟩
/-- Once operation y has come up, those alone may come that 'late' tells. -/
def lateFits (md : Region.Mode) (ops : Array Oper) (z y : Nat) (late : Nat → Bool) : Bool :=
  decide (z < y) || (List.range z).all fun i => late i || i == y || (List.range z).any fun k => decide (i < k) && depOf md ops k i && (k == y || !late k)
structure FreeI (row0 : Option Nat) (y : Nat) (late : Nat → Bool) (md : Region.Mode) (ops : Array Oper) (z : Nat) (V : Nat → Value → World → Prop) (blk : Nat → Value → Option Nat) (a0 : Act) (w0 : World) (listed : Array Bool) (vals : Nat → Value) (a : Act) (w : World) : Prop where
  size : listed.size = ops.size
  act : a = putLF (dstOf ops) vals (fun j => listed.getD j false) (List.range (z + 1)) a0
  below : w0.grownBy w row0
  below0 : listed.getD y false = false → w0.grownBy w none
  val : ∀ j, listed.getD j false = true → (listed.getD y false = true → j = y ∨ late j = true) → V j (vals j) w
  clos : ∀ i j, listed.getD i false = true → depOf md ops i j = true → listed.getD j false = true
  blkLt : ∀ j, listed.getD j false = true → ∀ g, blk j (vals j) = some g → g < w.heap.size
  blkNe : ∀ i j, i ≠ j → listed.getD i false = true → listed.getD j false = true → ∀ g, blk i (vals i) = some g → blk j (vals j) ≠ some g
  last : listed.getD z false = false

theorem depOf_on {i j : Nat} {o : Oper} (ho : ops[i]? = some o) : depOf md ops i j = true ↔ ∃ e ∈ o.after, Region.binds md e = true ∧ e.on = j := by
  unfold depOf
  rw [ho]
  simp only [Option.map_some, Option.getD_some, Array.any_eq_true, Bool.and_eq_true, beq_iff_eq]
  constructor
  · rintro ⟨k, h, hb, hj⟩
    exact ⟨_, Array.getElem_mem h, hb, hj⟩
  · rintro ⟨e, he, hb, hj⟩
    obtain ⟨k, h, rfl⟩ := Array.mem_iff_getElem.1 he
    exact ⟨k, h, hb, hj⟩

theorem ready_dep {listed : Array Bool} {i : Nat} : i ∈ Region.ready md ops listed ↔ listed.getD i true = false ∧ i < ops.size ∧ ∀ j, depOf md ops i j = true → listed.getD j false = true := by
  rw [mem_ready]
  constructor
  · rintro ⟨h0, o, ho, h⟩
    refine ⟨h0, (Array.getElem?_eq_some_iff.1 ho).1, fun j hj => ?_⟩
    obtain ⟨e, he, hb, rfl⟩ := (depOf_on ho).1 hj
    exact h e he hb
  · rintro ⟨h0, hlt, h⟩
    exact ⟨h0, ops[i], Array.getElem?_eq_getElem hlt, fun e he hb => h _ ((depOf_on (Array.getElem?_eq_getElem hlt)).2 ⟨e, he, hb, rfl⟩)⟩
theorem getD_true_false {listed : Array Bool} {i : Nat} (h : listed.getD i true = false) : listed.getD i false = false ∧ i < listed.size := by
  rcases Nat.lt_or_ge i listed.size with h' | h'
  · simp [h'] at h ⊢; exact h
  · simp [Array.getElem?_eq_none h'] at h
theorem getD_false_true {listed : Array Bool} {i : Nat} (h : listed.getD i false = false) (hi : i < listed.size) : listed.getD i true = false := by
  simp [hi] at h ⊢; exact h
theorem set_list {listed : Array Bool} {i : Nat} (hi : i < listed.size) (j : Nat) : (listed.setIfInBounds i true).getD j false = (listed.getD j false || decide (j = i)) := by
  by_cases h : j = i
  · subst h; simp [hi]
  · rw [getD_set_ne false (Ne.symm h), decide_eq_false h, Bool.or_false]

/-- THE LAW. -/
theorem wpAny_free {n z : Nat} (row0 : Option Nat) {V : Nat → Value → World → Prop} {blk : Nat → Value → Option Nat} {a0 : Act} {w0 : World} (hfit : regionFits md ops n z = true) (hn : n ≤ a0.tmps.size)
    (y : Nat) (late : Nat → Bool) (hlate : lateFits md ops z y late = true) (mono : ∀ j v w w', V j v w → w.grownBy w' none → V j v w') (monoY : ∀ j v w w', late j = true → V j v w → w.grownBy w' row0 → V j v w')
    (step : ∀ i, i < z → ∀ (vals : Nat → Value) (a : Act) (w : World), w0.grownBy w row0 → (late i = false → w0.grownBy w none) → (∀ j, depOf md ops i j = true → (late i = true → j = y ∨ late j = true) → V j (vals j) w) → (∀ j k, j ≠ k → depOf md ops i j = true → depOf md ops i k = true → ∀ g, blk j (vals j) = some g → blk k (vals k) ≠ some g) →
      (∀ j t, depOf md ops i j = true → dstOf ops j = some t → a.tmps.getD t undef = vals j) → (∀ t, noDst ops z t = true → a.tmps.getD t undef = a0.tmps.getD t undef) →
      ∀ K : Act → World → Prop, (∀ v w', (i ≠ y → w.grownBy w' none) → (i = y → w.grownBy w' row0) → (late i = true → w' = w) → V i v w' → (∀ g, blk i v = some g → w.heap.size ≤ g ∧ g < w'.heap.size) → K (a.put (dstOf ops i) v) w') → wpOp P ops Q i K a w)
    (fin : ∀ (vals : Nat → Value) (w : World), w0.grownBy w row0 → (∀ j, j < z → (y < z → j = y ∨ late j = true) → V j (vals j) w) → (∀ j k, j < z → k < z → j ≠ k → ∀ g, blk j (vals j) = some g → blk k (vals k) ≠ some g) → (∀ j, j < z → ∀ g, blk j (vals j) = some g → g < w.heap.size) →
      ∀ K : Act → World → Prop, (∀ a w, Q .normal a w → K a w) → wpOp P ops Q z K (putLF (dstOf ops) vals (fun j => decide (j < z)) (List.range (z + 1)) a0) w) :
    ∀ (fuel : Nat) (listed : Array Bool) (vals : Nat → Value) (a : Act) (w : World), (List.range (z + 1)).countP (fun j => !listed.getD j false) ≤ fuel → FreeI row0 y late md ops z V blk a0 w0 listed vals a w → wpAny P md ops Q fuel listed a w := by
  unfold regionFits at hfit
  rw [Bool.and_eq_true, beq_iff_eq, List.all_eq_true] at hfit
  obtain ⟨hsz, hf⟩ := hfit
  have hdn : ∀ i j, depOf md ops i j = true → i < ops.size := fun i j hd => by
    rcases Nat.lt_or_ge i ops.size with h' | h'
    · exact h'
    · simp [depOf, Array.getElem?_eq_none h'] at hd
  have hf1 : ∀ i j, depOf md ops i j = true → j < i := fun i j hd => by
    have hi := hdn i j hd
    have h := hf i (List.mem_range.2 (by omega))
    simp only [Bool.and_eq_true] at h
    have h1 := h.1.1.2
    have ho := Array.getElem?_eq_getElem hi
    obtain ⟨e, he, hb, hj⟩ := (depOf_on ho).1 hd
    rw [ho] at h1
    simp only [Option.map_some, Option.getD_some, Array.all_eq_true_iff_forall_mem] at h1
    have := h1 e he
    rw [hb] at this
    subst hj
    simpa using this
  have hf2 : ∀ i j, i ≤ z → j ≤ z → i ≠ j → ∀ t, dstOf ops i = some t → dstOf ops j ≠ some t := fun i j hi hj hne t ht ht' => by
    have h := hf i (List.mem_range.2 (by omega))
    simp only [Bool.and_eq_true, List.all_eq_true, List.mem_range] at h
    have := h.1.1.1 j (by omega)
    rw [ht, ht', decide_eq_false hne] at this
    simp at this
  have hf3 : ∀ i, i < z → ∃ k, k ≤ z ∧ i < k ∧ depOf md ops k i = true := fun i hi => by
    have h := hf i (List.mem_range.2 (by omega))
    simp only [Bool.and_eq_true] at h
    have := h.1.2
    rw [decide_eq_false (by omega), Bool.false_or, List.any_eq_true] at this
    obtain ⟨k, hk, hh⟩ := this
    rw [Bool.and_eq_true, decide_eq_true_iff] at hh
    exact ⟨k, by have := List.mem_range.1 hk; omega, hh.1, hh.2⟩
  have hf4 : ∀ i t, i ≤ z → dstOf ops i = some t → t < n := fun i t hi ht => by
    have h := hf i (List.mem_range.2 (by omega))
    simp only [Bool.and_eq_true] at h
    have := h.2
    rw [ht] at this
    simpa using this
  have hdst : ∀ j, ops.size ≤ j → dstOf ops j = none := fun j h' => by simp [dstOf, Array.getElem?_eq_none h']
  have hap : ∀ i, i ≤ z → ∀ j, j ≠ i → ∀ t, dstOf ops i = some t → dstOf ops j ≠ some t := fun i hi j hne t ht => by
    rcases Nat.lt_or_ge j (z + 1) with h' | h'
    · exact hf2 i j hi (by omega) (Ne.symm hne) t ht
    · rw [hdst j (by omega)]; simp
  intro fuel
  induction fuel with
  | zero =>
    intro listed vals a w hc hI
    exfalso
    have : (List.range (z + 1)).countP (fun j => !listed.getD j false) = 0 := by omega
    rw [List.countP_eq_zero] at this
    have := this z (List.mem_range.2 (by omega))
    rw [hI.last] at this
    simp at this
  | succ fuel ih =>
    intro listed vals a w hc hI
    refine ⟨fun hr => ?_, fun i hi => ?_⟩
    · exfalso
      have hall : ∀ k, k ≤ z → listed.getD k false = true := by
        intro k
        induction k using Nat.strongRecOn with
        | _ k ihk =>
          intro hk
          cases hl : listed.getD k false with
          | true => rfl
          | false =>
            have : k ∈ Region.ready md ops listed := ready_dep.2 ⟨getD_false_true hl (by rw [hI.size]; omega), by omega, fun j hj => by
              have := hf1 k j hj
              exact ihk j this (by omega)⟩
            rw [hr] at this
            cases this
      have := hall z (Nat.le_refl _)
      rw [hI.last] at this
      cases this
    · obtain ⟨h0, hlt, hdep⟩ := ready_dep.1 hi
      obtain ⟨h0', hls⟩ := getD_true_false h0
      have hiz : i ≤ z := by omega
      have hi' : i ∈ List.range (z + 1) := List.mem_range.2 (by omega)
      have hother : ∀ t, noDst ops z t = true → a.tmps.getD t undef = a0.tmps.getD t undef := fun t ht => by
        unfold noDst at ht
        rw [List.all_eq_true] at ht
        rw [hI.act]
        exact putL_other _ _ fun j hj _ => by simpa using ht j hj
      have hthis : ∀ j t, listed.getD j false = true → dstOf ops j = some t → a.tmps.getD t undef = vals j := fun j t hj ht => by
        have hjs : j < ops.size := by
          rcases Nat.lt_or_ge j ops.size with h' | h'
          · exact h'
          · rw [hdst j h'] at ht; cases ht
        rw [hI.act]
        exact putL_this ht (fun k hk => fun h => hap j (by omega) k hk t ht h) hj _ _ List.nodup_range (List.mem_range.2 (by omega)) (Nat.lt_of_lt_of_le (hf4 j t (by omega) ht) hn)
      have hlt' : i ≠ z → listed.getD y false = true → late i = true := fun hiz' hy => by
        unfold lateFits at hlate
        rw [Bool.or_eq_true, decide_eq_true_iff, List.all_eq_true] at hlate
        have hys : y < listed.size := by
          rcases Nat.lt_or_ge y listed.size with h' | h'
          · exact h'
          · simp [Array.getElem?_eq_none h'] at hy
        have hyz : ¬ z < y := by rw [hI.size] at hys; omega
        have hl := hlate.resolve_left hyz
        have hyz' : y ≠ z := fun e => by rw [e, hI.last] at hy; cases hy
        have hall : ∀ m j, z - j ≤ m → j < z → late j = false → listed.getD j false = true := by
          intro m
          induction m with
          | zero => intro j h1 h2; omega
          | succ m ihm =>
            intro j h1 h2 h3
            have h4 := hl j (List.mem_range.2 h2)
            rw [h3, Bool.false_or, Bool.or_eq_true] at h4
            rcases h4 with h4 | h4
            · rw [beq_iff_eq] at h4; subst h4; exact hy
            · rw [List.any_eq_true] at h4
              obtain ⟨k, hk, h5⟩ := h4
              simp only [Bool.and_eq_true, Bool.or_eq_true, decide_eq_true_iff, beq_iff_eq, Bool.not_eq_true'] at h5
              obtain ⟨⟨h6, h7⟩, h8⟩ := h5
              rcases h8 with rfl | h8
              · exact hI.clos _ j hy h7
              · exact hI.clos k j (ihm k (by omega) (List.mem_range.1 hk) h8) h7
        cases hli : late i with
        | true => rfl
        | false =>
          rw [hall z i (by omega) (by omega) hli] at h0'; cases h0'
      by_cases hz : i = z
      · subst hz
        have hall : ∀ m j, i - j ≤ m → j < i → listed.getD j false = true := by
          intro m
          induction m with
          | zero => intro j h1 h2; omega
          | succ m ihm =>
            intro j h1 h2
            obtain ⟨k, hk, hjk, hd⟩ := hf3 j h2
            by_cases hki : k = i
            · subst hki; exact hdep j hd
            · exact hI.clos k j (ihm k (by omega) (by omega)) hd
        have hall' : ∀ j, j < i → listed.getD j false = true := fun j hj => hall i j (by omega) hj
        have ha : a = putLF (dstOf ops) vals (fun j => decide (j < i)) (List.range (i + 1)) a0 := by
          rw [hI.act]
          refine putL_congr _ _ fun j hj => ⟨?_, rfl⟩
          have := List.mem_range.1 hj
          by_cases hji : j < i
          · rw [hall' j hji, decide_eq_true hji]
          · have : j = i := by omega
            rw [this, h0', decide_eq_false (by omega)]
        rw [ha]
        refine fin vals w hI.below (fun j hj hyj => hI.val j (hall' j hj) (fun hy => hyj (by
          have h1 : y < listed.size := by
            rcases Nat.lt_or_ge y listed.size with h' | h'
            · exact h'
            · simp [Array.getElem?_eq_none h'] at hy
          have h2 : y ≠ i := fun e => by rw [e, h0'] at hy; cases hy
          rw [hI.size] at h1
          omega))) (fun j k hj hk hne => hI.blkNe j k hne (hall' j hj) (hall' k hk)) (fun j hj => hI.blkLt j (hall' j hj)) _ fun a' w' hq => ?_
        refine wpAny_done ?_ hq _
        unfold Region.ready
        rw [List.filter_eq_nil_iff]
        intro j hj
        have hj' := List.mem_range.1 hj
        intro hc
        have hr : j ∈ Region.ready md ops (listed.setIfInBounds i true) := by
          unfold Region.ready
          rw [List.mem_filter]
          exact ⟨hj, hc⟩
        have h1 := (getD_true_false (ready_dep.1 hr).1).1
        rw [set_list hls] at h1
        rw [Bool.or_eq_false_iff] at h1
        by_cases hji : j = i
        · rw [decide_eq_true hji] at h1; exact absurd h1.2 (by simp)
        · rw [hall' j (by omega)] at h1; exact absurd h1.1 (by simp)
      · have hyl : late i = false → listed.getD y false = false := fun hl => by
          cases hly : listed.getD y false with
          | false => rfl
          | true => rw [hlt' hz hly] at hl; cases hl
        refine step i (by omega) vals a w hI.below (fun hl => hI.below0 (hyl hl)) (fun j hj hy => hI.val j (hdep j hj) (fun hly => hy (hlt' hz hly))) (fun j k hne hj hk => hI.blkNe j k hne (hdep j hj) (hdep k hk)) (fun j t hj ht => hthis j t (hdep j hj) ht) hother _ fun v w' hbn hby hl hv hg => ?_
        have hb : w.grownBy w' row0 := by
          by_cases hiy : i = y
          · exact hby hiy
          · have := hbn hiy
            exact ⟨this.os, this.tape, this.output, this.size, fun k hk _ => this.block k hk (by simp)⟩
        have hset := set_list (listed := listed) hls
        have hvals : ∀ j, j ≠ i → (fun j => if j = i then v else vals j) j = vals j := fun j hj => by simp [hj]
        have hvi : (fun j => if j = i then v else vals j) i = v := by simp
        refine ih (listed.setIfInBounds i true) (fun j => if j = i then v else vals j) _ w' ?_ ?_
        · have := cnt_one (p := fun j => !listed.getD j false) (q := fun j => !(listed.setIfInBounds i true).getD j false) (i := i) (by rw [h0']; rfl) (fun j => by rw [hset]; cases listed.getD j false <;> simp) (List.range (z + 1)) List.nodup_range hi'
          omega
        · refine ⟨by rw [Array.size_setIfInBounds]; exact hI.size, ?_, grownF_trans hI.below hb, fun hy' => ?_, fun j hj hy' => ?_, fun j k hj hd => ?_, fun j hj g hgj => ?_, fun j k hne hj hk g hgj hgk => ?_, ?_⟩
          · rw [putL_one (vals := vals) (p := fun j => listed.getD j false) (i := i) (fun j hj t ht => hap i hiz j hj t ht) h0' hset hvals _ _ List.nodup_range hi', hI.act, if_pos rfl]
          · rw [hset, Bool.or_eq_false_iff] at hy'
            have hiy : i ≠ y := fun e => by rw [decide_eq_true e.symm] at hy'; exact absurd hy'.2 (by simp)
            exact grownF_trans (hI.below0 hy'.1) (hbn hiy)
          · rw [hset] at hj
            by_cases hji : j = i
            · subst hji; simp only [if_true]; exact hv
            · rw [decide_eq_false hji, Bool.or_false] at hj
              simp only [if_neg hji]
              by_cases hiy : i = y
              · subst hiy
                have h1 := hy' (by rw [hset, decide_eq_true rfl, Bool.or_true])
                exact monoY _ _ _ _ (h1.resolve_left hji) (hI.val j hj (fun h => by rw [h0'] at h; cases h)) hb
              · cases hly : listed.getD y false with
                | true =>
                  rw [hl (hlt' hz hly)]
                  exact hI.val j hj (fun _ => hy' (by rw [hset, hly]; rfl))
                | false => exact mono _ _ _ _ (hI.val j hj (fun h => by rw [hly] at h; cases h)) (hbn hiy)
          · rw [hset] at hj ⊢
            by_cases hji : j = i
            · subst hji; rw [hdep k hd]; rfl
            · rw [decide_eq_false hji, Bool.or_false] at hj
              rw [hI.clos j k hj hd]; rfl
          · rw [hset] at hj
            by_cases hji : j = i
            · subst hji; simp only [if_true] at hgj; exact (hg g hgj).2
            · rw [decide_eq_false hji, Bool.or_false] at hj
              simp only [if_neg hji] at hgj
              have := hI.blkLt j hj g hgj
              have := hb.size
              omega
          · rw [hset] at hj hk
            by_cases hji : j = i
            · have hki : k ≠ i := fun e => hne (hji.trans e.symm)
              rw [decide_eq_false hki, Bool.or_false] at hk
              subst hji
              simp only [if_true] at hgj
              simp only [if_neg hki] at hgk
              have h1 := (hg g hgj).1
              have h2 := hI.blkLt k hk g hgk
              omega
            · rw [decide_eq_false hji, Bool.or_false] at hj
              simp only [if_neg hji] at hgj
              by_cases hki : k = i
              · subst hki
                simp only [if_true] at hgk
                have h1 := (hg g hgk).1
                have h2 := hI.blkLt j hj g hgj
                omega
              · rw [decide_eq_false hki, Bool.or_false] at hk
                simp only [if_neg hki] at hgk
                exact hI.blkNe j k hne hj hk g hgj hgk
          · rw [hset, hI.last, decide_eq_false (fun e => hz e.symm)]; rfl
/-- At a region. -/
theorem wp_region_free {n z : Nat} (row0 : Option Nat) {V : Nat → Value → World → Prop} {blk : Nat → Value → Option Nat} {a0 : Act} {w0 : World} (hfit : regionFits md ops n z = true) (hn : n ≤ a0.tmps.size)
    (y : Nat) (late : Nat → Bool) (hlate : lateFits md ops z y late = true) (mono : ∀ j v w w', V j v w → w.grownBy w' none → V j v w') (monoY : ∀ j v w w', late j = true → V j v w → w.grownBy w' row0 → V j v w')
    (step : ∀ i, i < z → ∀ (vals : Nat → Value) (a : Act) (w : World), w0.grownBy w row0 → (late i = false → w0.grownBy w none) → (∀ j, depOf md ops i j = true → (late i = true → j = y ∨ late j = true) → V j (vals j) w) → (∀ j k, j ≠ k → depOf md ops i j = true → depOf md ops i k = true → ∀ g, blk j (vals j) = some g → blk k (vals k) ≠ some g) →
      (∀ j t, depOf md ops i j = true → dstOf ops j = some t → a.tmps.getD t undef = vals j) → (∀ t, noDst ops z t = true → a.tmps.getD t undef = a0.tmps.getD t undef) →
      ∀ K : Act → World → Prop, (∀ v w', (i ≠ y → w.grownBy w' none) → (i = y → w.grownBy w' row0) → (late i = true → w' = w) → V i v w' → (∀ g, blk i v = some g → w.heap.size ≤ g ∧ g < w'.heap.size) → K (a.put (dstOf ops i) v) w') → wpOp P ops Q i K a w)
    (fin : ∀ (vals : Nat → Value) (w : World), w0.grownBy w row0 → (∀ j, j < z → (y < z → j = y ∨ late j = true) → V j (vals j) w) → (∀ j k, j < z → k < z → j ≠ k → ∀ g, blk j (vals j) = some g → blk k (vals k) ≠ some g) → (∀ j, j < z → ∀ g, blk j (vals j) = some g → g < w.heap.size) →
      ∀ K : Act → World → Prop, (∀ a w, Q .normal a w → K a w) → wpOp P ops Q z K (putLF (dstOf ops) vals (fun j => decide (j < z)) (List.range (z + 1)) a0) w) :
    wpAny P md ops Q ops.size (Array.replicate ops.size false) a0 w0 := by
  have hf0 : ∀ j, (Array.replicate ops.size false).getD j false = false := fun j => by
    rcases Nat.lt_or_ge j ops.size with h' | h'
    · simp [h']
    · simp [h']
  have hs : ops.size = z + 1 := by
    unfold regionFits at hfit
    rw [Bool.and_eq_true, beq_iff_eq] at hfit
    exact hfit.1
  refine wpAny_free row0 hfit hn y late hlate mono monoY step fin _ _ (fun _ => undef) _ _ ?_ ⟨by simp, ?_, World.grownBy.refl _ _, fun _ => World.grownBy.refl _ _, fun j hj => ?_, fun i j hi _ => ?_, fun j hj => ?_, fun i j _ hi => ?_, hf0 _⟩
  · rw [hs]
    exact Nat.le_trans List.countP_le_length (by simp)
  · have : ∀ (R : List Nat) (a : Act), a = putLF (dstOf ops) (fun _ => undef) (fun j => (Array.replicate ops.size false).getD j false) R a := by
      intro R
      induction R with
      | nil => intro a; rfl
      | cons x r ih => intro a; unfold putLF; rw [hf0, if_neg (by simp)]; exact ih a
    exact this _ _
  · rw [hf0] at hj; cases hj
  · rw [hf0] at hi; cases hi
  · rw [hf0] at hj; cases hj
  · rw [hf0] at hi; cases hi
end
end Go.Proofs.YtpnhjpplfjamkaaGreatDoor
