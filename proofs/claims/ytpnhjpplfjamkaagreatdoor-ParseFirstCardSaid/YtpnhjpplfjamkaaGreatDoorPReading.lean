/-
  Package parse: what read defers: it takes over what ended the reading. Package parse: read: all pieces, up to the first that is wrong. Package parse: read, walked.
-/
import Derived.Test.YtpnhjpplfjamkaaGreatDoorPTaken
import Derived.Test.YtpnhjpplfjamkaaGreatDoorREach
import Derived.Test.YtpnhjpplfjamkaaGreatDoorWAll
import Derived.RecoverIn
import Derived.Defers
import Derived.Recover
/-! Package parse: what read defers: it takes over what ended the reading. -/
namespace Go.Proofs.YtpnhjpplfjamkaaGreatDoor
open Go Go.RowKit

set_option maxRecDepth 100000 in
theorem assert_fault (v : Value) (xT : TypeId) (w : World) : (Instr.typeAssert (.iface 82 v) xT 41 true).run Tryz.prog w = .ok (.tuple #[.iface 82 v, .bool true]) w := by
  kernel_rfl
set_option maxRecDepth 100000 in
theorem assert_none (xT : TypeId) (w : World) : (Instr.typeAssert .nilIface xT 41 true).run Tryz.prog w = .ok (.tuple #[.nilIface, .bool false]) w := by
  kernel_rfl

def chainOf (b : Nat) (r : Bool) : List PanicEntry := [{ v := .iface 82 (.pointer (some ⟨b, 0, none⟩)), recovered := r }]
set_option maxRecDepth 100000 in
theorem catch_panicking (n : Nat) (p : Addr) (b : Nat) (w : World) (hc : w.cell? p = some .nilIface) (hz : w.frozen? p = false) :
    CallsDIn Fence.wide n Tryz.prog 66 #[.pointer (some p)] (.panicking (chainOf b false)) w fun e u' w' =>
      e = .returned (.tuple #[]) ∧ u' = .panicking (chainOf b true) ∧ w' = w.setCell p (.iface 82 (.pointer (some ⟨b, 0, none⟩))) := by
  refine callsDIn_of_wpSIn Tryz.func66 rfl trivial fun c₀ cs hu => ?_
  have ha := assert_fault (.pointer (some ⟨b, 0, none⟩)) 20 w
  unfold chainOf at hu ⊢
  apply wpSIn_seq
  apply wpSIn_region
  simp [wpOpsSIn, go_sem, recoverD, hu, Tryz.ntmps66, Exit.thenS, ha]
  apply wpSIn_seq
  apply wpSIn_region
  simp [wpOpsSIn, go_sem, Exit.thenS]
  refine wpSIn_cond (t := true) (by simp [Act.eval, Array.replicate]) ?_
  simp only [if_true]
  apply wpSIn_region
  simp [wpOpsSIn, go_sem, hc, hz, bodyPostS, results, Tryz.f66]

set_option maxRecDepth 100000 in
theorem catch_idle (n : Nat) (p : Addr) (w : World) :
    CallsDIn Fence.wide n Tryz.prog 66 #[.pointer (some p)] .returning w fun e u' w' => e = .returned (.tuple #[]) ∧ u' = .returning ∧ w' = w := by
  refine callsDIn_of_wpSIn Tryz.func66 rfl trivial fun c₀ cs hu => ?_
  have ha := assert_none 20 w
  apply wpSIn_seq
  apply wpSIn_region
  simp [wpOpsSIn, go_sem, recoverD, hu, Tryz.ntmps66, Exit.thenS, ha]
  apply wpSIn_seq
  apply wpSIn_region
  simp [wpOpsSIn, go_sem, Exit.thenS]
  refine wpSIn_cond (t := false) (by simp [Act.eval, Array.replicate]) ?_
  simp only [Bool.false_eq_true, if_false]
  refine wpSIn_of_wpIn rfl (wpIn_skip ?_)
  cases c₀
  simp_all [bodyPostS, results, Tryz.f66]
end Go.Proofs.YtpnhjpplfjamkaaGreatDoor

/-! Package parse: read: all pieces, up to the first that is wrong. -/
namespace Go.Proofs.YtpnhjpplfjamkaaGreatDoor
open Go Go.RowKit

section
variable {F : Fence} {n : Nat} {P : Program}
theorem wpFn_block {f : FuncId} {id : Nat} {c : Code} {Q : Exit → Act → World → Prop} {a : Act} {w : World} (h : wpFn f F n P c (Exit.inBlock id Q) a w) : wpFn f F n P (Code.block id c) Q a w := by
  intro b k cs hbf hro hb hr
  have h0 : (lone (b.atR a (.code (.block id c) :: k)) cs w).fenced P F := fenced_calm hb hr rfl
  obtain ⟨e, a₁, w₁, hq, harr⟩ := h b (.inBlock id :: k) cs hbf hro hb hr
  cases e with
  | normal => exact ⟨.normal, a₁, w₁, hq, .head h0 stepR_block (StepsIn.trans harr (.one (fenced_calm hb hr rfl) stepR_inBlock))⟩
  | exit id' =>
    by_cases hid : id' = id
    · simp only [Exit.inBlock, hid, if_true] at hq
      exact ⟨.normal, a₁, w₁, hq, .head h0 stepR_block (harr.1 k (by simp [exitTo, hid]))⟩
    · simp only [Exit.inBlock, hid, if_false] at hq
      have this : (id == id') = false := by simp; exact fun h => hid h.symm
      have hx : exitTo id' (.inBlock id :: k) = exitTo id' k := by simp [exitTo, this]
      exact ⟨.exit id', a₁, w₁, hq, fun k' hk => .head h0 stepR_block (harr.1 k' (by rw [hx]; exact hk)),
        fun hr' hk => let ⟨k₁, h1, h2⟩ := harr.2 hr' (by rw [hx]; exact hk); ⟨k₁, h1, .head h0 stepR_block h2⟩⟩
  | goto l =>
    have hx : gotoIn l (.inBlock id :: k) = gotoIn l k := by simp [gotoIn]
    exact ⟨_, a₁, w₁, hq, fun k' hk => .head h0 stepR_block (harr.1 k' (by rw [hx]; exact hk)),
      fun hr' hk => let ⟨k₁, h1, h2⟩ := harr.2 hr' (by rw [hx]; exact hk); ⟨k₁, h1, .head h0 stepR_block h2⟩⟩
  | ret => exact ⟨_, a₁, w₁, hq, .of_steps (.one h0 stepR_block) harr⟩
  | panic ch => exact ⟨_, a₁, w₁, hq, .of_steps (.one h0 stepR_block) harr⟩
  | outgrown => exact ⟨_, a₁, w₁, hq, .of_steps (.one h0 stepR_block) harr⟩
end

/-! What is known of the reading so far. -/
theorem runP_append : ∀ (a b : List (Nat × ByteArray)) (st : PSt), runP (a ++ b) st = match runP a st with
    | (st', none) => runP b st'
    | (st', some e) => (st', some e)
  | [], b, st => rfl
  | x :: r, b, st => by
    simp only [List.cons_append, runP]
    cases h : takeP st x.1 (lowS x.2) with
    | error e => rfl
    | ok st' => exact runP_append r b _
theorem runP_snoc {pre : List (Nat × ByteArray)} {x : Nat × ByteArray} {st0 st : PSt} (h : runP pre st0 = (st, none)) : runP (pre ++ [x]) st0 = match takeP st x.1 (lowS x.2) with
    | .error e => (st, some e)
    | .ok st' => (endP st' x.1 x.2.size, none) := by
  rw [runP_append, h]
  simp only [runP]
  cases takeP st x.1 (lowS x.2) <;> rfl
theorem take_s0 {st st' : PSt} {a : Nat} {p : ByteArray} (h6 : st.stage ≤ 6) (ht : takeP st a p = .ok st') : st'.stage ≠ 0 ∧ st'.stage ≤ 6 := by
  unfold takeP furtherP at ht
  repeat' split at ht
  all_goals first
    | (cases ht; done)
    | (injection ht with ht; subst ht; first | (unfold extendP; constructor <;> dsimp only <;> omega) | (constructor <;> dsimp only <;> first | omega | (split <;> omega)))
theorem runP_good : ∀ (pre : List (Nat × ByteArray)) (st : PSt) (k : Nat) (st' : PSt), PInv k st → (st.stage = 0 → st.must = false) → st.stage ≤ 6 → runP pre st = (st', none) → PInv (k + pre.length) st' ∧ (st'.stage = 0 → st'.must = false) ∧ st'.stage ≤ 6
  | [], st, k, st', h, h0, h6, e => by
    simp only [runP, Prod.mk.injEq, and_true] at e
    subst e
    exact ⟨h, h0, h6⟩
  | x :: r, st, k, st', h, h0, h6, e => by
    simp only [runP] at e
    cases ht : takeP st x.1 (lowS x.2) with
    | error _ => rw [ht] at e; simp at e
    | ok s2 =>
      rw [ht] at e
      obtain ⟨q1, q2⟩ := take_s0 h6 ht
      have hs : (endP s2 x.1 x.2.size).stage = s2.stage := by unfold endP; split <;> rfl
      have := runP_good r _ (k + 1) st' ((h.take ht).ended x.1 x.2.size) (fun e => absurd (hs ▸ e) q1) (hs ▸ q2) e
      rw [List.length_cons]
      exact ⟨by have q := this.1; rwa [show k + 1 + r.length = k + (r.length + 1) by omega] at q, this.2⟩
theorem rdGood_of {pre : List (Nat × ByteArray)} {st : PSt} (hl : pre.length ≤ 1048577) (h : runP pre pSt0 = (st, none)) : RdGood st := by
  obtain ⟨h1, h2, h3⟩ := runP_good pre pSt0 0 st PInv.start (fun _ => rfl) (by decide) h
  have := h1.len
  exact ⟨⟨by omega, by omega, by omega, by omega, by omega, fun x hx => by have := h1.subs x hx; omega⟩, fun a b c => h1.ext b a c, h2, h3⟩
section
variable {w w' : World} {N B M : Nat} {st : PSt}
theorem Rd.from' (h : Rd w N B M st) (hB : B < N) (hM : M < N) {row : Option Nat} (hg : w.grownBy w' row) (hr : ∀ r, row = some r → N ≤ r ∧ ∃ o : Obj, w.heap[r]? = some o ∧ o.isCells = false) : Rd w' N B M st := by
  obtain ⟨ve, vv, vx, vp, us, h⟩ := h
  obtain ⟨n, hn, hm⟩ := h.m
  have far : ∀ {e : TypeId} {sz n : Nat} {v : Value} {xs : List Value}, w.ownsRow N e sz v n xs → ∀ g, v.ownBlock = some g → row ≠ some g := fun hown g hv e => by
    obtain ⟨_, o, ho, hc⟩ := hr g e
    rcases hown.2 with ⟨rfl, _⟩ | ⟨g', c, cur, rfl, _, hg', _⟩
    · cases hv
    · have e : g' = g := by simpa [Value.ownBlock] using hv
      subst e
      rw [hg'] at ho
      injection ho with ho
      subst ho
      cases hc
  refine ⟨ve, vv, vx, vp, us, (hg.block B (lt_of_heap h.hb) (fun e => by have := (hr B e.symm).1; omega)).trans h.hb, Nat.le_trans h.nh hg.size, h.r.kept hg fun x hx g e => far (h.r.1 x hx) g e, h.x.kept hg ?_, h.ul, n, hn, hm.kept hg (fun e => by have := (hr M e.symm).1; omega)⟩
  cases hv : vx.ownBlock with
  | none => exact .inl rfl
  | some g => exact .inr fun e => far h.x g hv e.symm
theorem Foot.from' {W0 : World} (h : Foot N B M W0 w) (hN : W0.heap.size ≤ N) {row : Option Nat} (hg : w.grownBy w' row) (hr : ∀ r, row = some r → N ≤ r) : Foot N B M W0 w' :=
  ⟨hg.os.trans h.os, hg.tape.trans h.tape, hg.output.trans h.output, Nat.le_trans h.size hg.size, fun k o h1 h2 h3 h4 => (hg.block k (by have := lt_of_heap (h.blk k o h1 h2 h3 h4); omega) (fun e => by have := hr k e.symm; have := lt_of_heap h1; omega)).trans (h.blk k o h1 h2 h3 h4)⟩
theorem Foot.keepQ (h : Foot N B M w w') (hB : B < N) (hM : M < N) : KeepQ (fun k => k < N ∧ k ≠ B ∧ k ≠ M) N frR w w' :=
  ⟨h.os, h.tape, h.output, h.size, fun k o h1 h2 => by
    rcases h2 with ⟨h2, h3, h4⟩ | ⟨h2, h3⟩
    · exact h.blk k o h1 h3 h4 (.inl h2)
    · exact h.blk k o h1 (by omega) (by omega) (.inr h3)⟩
end
theorem lowB_dash : ∀ c : UInt8, lowB c = 45 → c = 45 := byte_all (fun c => lowB c = 45 → c = 45) (by decide +kernel)
theorem piece_low {s : ByteArray} {x : Nat × ByteArray} (h : x ∈ pieces s) : pieces (lowS x.2) = [(0, lowS x.2)] := by
  have h1 : x.2 ∈ splS s := by rw [← pieces_map]; exact List.mem_map.2 ⟨x, h, rfl⟩
  obtain ⟨q, hq, he⟩ := List.mem_map.1 h1
  have h2 := spl_mem _ q hq
  have h3 : (45 : UInt8) ∉ q.map lowB := fun hm => by
    obtain ⟨c, hc, e⟩ := List.mem_map.1 hm
    exact h2 (lowB_dash c e ▸ hc)
  unfold pieces
  rw [show bs (lowS x.2) = q.map lowB by rw [← he]; unfold lowS; rw [bs_ofL, bs_ofL], spl_plain h3]
  rw [← he]
  unfold lowS
  rw [bs_ofL]
  rfl
def ReadI (W0 : World) (N B M : Nat) (pre : List (Nat × ByteArray)) (W : World) : Prop := ∃ st, runP pre pSt0 = (st, none) ∧ Rd W N B M st ∧ Foot N B M W0 W
def ReadX (W0 : World) (N B M : Nat) (ch : List PanicEntry) (pre : List (Nat × ByteArray)) (W : World) : Prop :=
  ∃ st x b, runP pre pSt0 = (st, some x) ∧ ch = chainOf b false ∧ Rd W N B M st ∧ Foot N B M W0 W ∧ N ≤ b ∧ W.heap[b]? = some (faultObj (x.2.1 : Int) x.2.2 (.iface 44 (.int .i64 x.1)))

/-! Where the reading begins. -/
def rdStart (w : World) (s : ByteArray) : World := ((((w.alloc (.cells #[.pointer (some ⟨w.heap.size + 1 + 1 + 1, 0, none⟩)] 67)).alloc (.cells #[.nilIface] 41)).alloc (.map #[] 0)).alloc (.cells #[.string ⟨#[]⟩, .slice none 0 0, .string ⟨#[]⟩, .string ⟨#[]⟩, .slice none 0 0, .slice none 0 0, .slice none 0 0, .string ⟨#[]⟩, .int .i64 0, .int .i64 0, .string ⟨#[]⟩, .bool false, .map (some (w.heap.size + 1 + 1))] 73)).alloc (.cells #[.string s] 9)
theorem alloc_get {w : World} {o : Obj} {k : Nat} {x : Obj} (h : w.heap[k]? = some x) : (w.alloc o).heap[k]? = some x := (Below.heap_alloc _ _ _ (lt_of_heap h)).trans h
theorem rdStart_facts (w : World) (s : ByteArray) : (rdStart w s).heap.size = w.heap.size + 1 + 1 + 1 + 1 + 1 ∧ (rdStart w s).heap[w.heap.size]? = some (.cells #[.pointer (some ⟨w.heap.size + 1 + 1 + 1, 0, none⟩)] 67 (0, 0)) ∧ (rdStart w s).heap[w.heap.size + 1]? = some (.cells #[.nilIface] 41 (0, 0)) ∧
    (rdStart w s).heap[w.heap.size + 1 + 1 + 1 + 1]? = some (.cells #[.string s] 9 (0, 0)) ∧ Below w.heap.size w (rdStart w s) ∧ Rd (rdStart w s) (w.heap.size + 1 + 1 + 1 + 1 + 1) (w.heap.size + 1 + 1 + 1) (w.heap.size + 1 + 1) pSt0 := by
  unfold rdStart
  obtain ⟨o1, h1⟩ : ∃ o, (Obj.cells #[.pointer (some ⟨w.heap.size + 1 + 1 + 1, 0, none⟩)] 67) = o := ⟨_, rfl⟩
  obtain ⟨o2, h2⟩ : ∃ o, (Obj.cells #[.nilIface] 41) = o := ⟨_, rfl⟩
  obtain ⟨o4, h4⟩ : ∃ o, (Obj.cells #[.string ⟨#[]⟩, .slice none 0 0, .string ⟨#[]⟩, .string ⟨#[]⟩, .slice none 0 0, .slice none 0 0, .slice none 0 0, .string ⟨#[]⟩, .int .i64 0, .int .i64 0, .string ⟨#[]⟩, .bool false, .map (some (w.heap.size + 1 + 1))] 73) = o := ⟨_, rfl⟩
  obtain ⟨o5, h5⟩ : ∃ o, (Obj.cells #[.string s] 9) = o := ⟨_, rfl⟩
  have e1 : (w.alloc o1).heap.size = w.heap.size + 1 := World.size_alloc _ _
  have e2 : ((w.alloc o1).alloc o2).heap.size = w.heap.size + 1 + 1 := by rw [World.size_alloc, e1]
  have e3 : (((w.alloc o1).alloc o2).alloc (.map #[] 0)).heap.size = w.heap.size + 1 + 1 + 1 := by rw [World.size_alloc, e2]
  have e4 : ((((w.alloc o1).alloc o2).alloc (.map #[] 0)).alloc o4).heap.size = w.heap.size + 1 + 1 + 1 + 1 := by rw [World.size_alloc, e3]
  have e5 : (((((w.alloc o1).alloc o2).alloc (.map #[] 0)).alloc o4).alloc o5).heap.size = w.heap.size + 1 + 1 + 1 + 1 + 1 := by rw [World.size_alloc, e4]
  have a1 : (w.alloc o1).heap[w.heap.size]? = some o1 := World.alloc_heap_new _ _
  have a2 : ((w.alloc o1).alloc o2).heap[w.heap.size + 1]? = some o2 := by have := World.alloc_heap_new (w.alloc o1) o2; rwa [e1] at this
  have a3 := World.ownsMap_made ((w.alloc o1).alloc o2) Tryz.prog 9 (plainElem (H := Unit) Tryz.prog 4)
  rw [e2] at a3
  have a4 : ((((w.alloc o1).alloc o2).alloc (.map #[] 0)).alloc o4).heap[w.heap.size + 1 + 1 + 1]? = some o4 := by have := World.alloc_heap_new (((w.alloc o1).alloc o2).alloc (.map #[] 0)) o4; rwa [e3] at this
  have a5 : (((((w.alloc o1).alloc o2).alloc (.map #[] 0)).alloc o4).alloc o5).heap[w.heap.size + 1 + 1 + 1 + 1]? = some o5 := by have := World.alloc_heap_new ((((w.alloc o1).alloc o2).alloc (.map #[] 0)).alloc o4) o5; rwa [e4] at this
  rw [h1, h2, h4, h5]
  have hbl : Below w.heap.size w (((((w.alloc o1).alloc o2).alloc (.map #[] 0)).alloc o4).alloc o5) := by
    refine ((((Below.refl _ w).alloc (Nat.le_refl _) o1).alloc ?_ o2).alloc ?_ (.map #[] 0)).alloc ?_ o4 |>.alloc ?_ o5 <;> omega
  refine ⟨e5, alloc_get (alloc_get (alloc_get (alloc_get a1))), alloc_get (alloc_get (alloc_get a2)), a5, hbl, .slice none 0 0, .slice none 0 0, .slice none 0 0, .slice none 0 0, [], ?_⟩
  refine ⟨?_, Nat.le_of_eq e5.symm, ⟨fun x hx => ?_, ?_⟩, World.ownsRow_nil _ _ _ _, rfl, 0, Nat.le_refl _, (a3.alloc o4).alloc o5⟩
  · have := alloc_get (o := o5) a4
    rw [this, ← h4]
    rfl
  · have hx : x = (.slice none 0 0, []) ∨ x = (.slice none 0 0, []) ∨ x = (.slice none 0 0, []) := by simpa [rdRows, pSt0, pNo] using hx
    rcases hx with rfl | rfl | rfl <;> exact World.ownsRow_nil _ _ _ _
  · simp [rdRows, pSt0, pNo, Far, Value.ownBlock]
end Go.Proofs.YtpnhjpplfjamkaaGreatDoor

/-! Package parse: read, walked. -/
namespace Go.Proofs.YtpnhjpplfjamkaaGreatDoor
open Go Go.RowKit

attribute [local go_sem] Oper.semAt_some

theorem takeQ_ok {w w' : World} {N B M : Nat} {st st' : PSt} {e : Ending} (h : TakeQ w N B M st (.ok st') e w') : e = .returned (.tuple #[]) ∧ Foot N B M w w' ∧ Rd w' N B M st' := by
  rcases h with ⟨s2, q, h1, h2⟩ | ⟨x, b, q, _⟩
  · cases q; exact ⟨h1, h2.1, h2.2⟩
  · cases q
/-- The function's slots behind the range's head. -/
def rdTmps (w : World) (s : ByteArray) (at' piece a b : Value) : Array Value := #[.string s, undef, .pointer (some ⟨w.heap.size, 0, none⟩), .pointer (some ⟨w.heap.size + 1, 0, none⟩), at', piece, .map (some (w.heap.size + 1 + 1)), .agg #[.string ⟨#[]⟩, .slice none 0 0, .string ⟨#[]⟩, .string ⟨#[]⟩, .slice none 0 0, .slice none 0 0, .slice none 0 0, .string ⟨#[]⟩, .int .i64 0, .int .i64 0, .string ⟨#[]⟩, .bool false, .map (some (w.heap.size + 1 + 1))], .pointer (some ⟨w.heap.size + 1 + 1 + 1, 0, none⟩), .func (.func 66) #[] #[.pointer (some ⟨w.heap.size + 1, 0, none⟩)], .string s, .func (.func 83) #[] #[.pointer (some ⟨w.heap.size + 1 + 1 + 1 + 1, 0, none⟩)], a, b, undef, undef, undef, undef, undef, undef, undef, undef, undef, undef, undef, undef, undef, undef, undef, undef, undef, undef, undef, undef, undef, undef, undef, undef, undef]
/-! How read is left: by what ended the reading, or at its end. -/
/-- What is as it was: all but the mark, and the box of what is wrong. -/
def LeftAs (W W' : World) (D R3 : Nat) : Prop := W'.os = W.os ∧ W'.tape = W.tape ∧ W'.output = W.output ∧ W.heap.size ≤ W'.heap.size ∧ ∀ k, k ≠ D → k ≠ R3 → W'.heap[k]? = W.heap[k]?
def rdDefers (w : World) (D : Nat) : List Deferred := [{ target := .collected D, args := #[] }, { target := .fn (.func 66) #[.pointer (some ⟨w.heap.size + 1, 0, none⟩)], args := #[] }]
theorem results_read {w W : World} {tmps : Array Value} {B : Nat} {ev : Value} (h2 : tmps.getD 2 undef = .pointer (some ⟨w.heap.size, 0, none⟩)) (h3 : tmps.getD 3 undef = .pointer (some ⟨w.heap.size + 1, 0, none⟩))
    (c2 : W.cell? ⟨w.heap.size, 0, none⟩ = some (.pointer (some ⟨B, 0, none⟩))) (c3 : W.cell? ⟨w.heap.size + 1, 0, none⟩ = some ev) (hev : ev = .nilIface ∨ ∃ t v, ev = .iface t v) : (results Tryz.f37 tmps).run Tryz.prog W = .ok (.tuple #[.pointer (some ⟨B, 0, none⟩), ev]) W := by
  have h2' : tmps[2]?.getD undef = .pointer (some ⟨w.heap.size, 0, none⟩) := by simpa using h2
  have h3' : tmps[3]?.getD undef = .pointer (some ⟨w.heap.size + 1, 0, none⟩) := by simpa using h3
  rcases hev with rfl | ⟨t, v, rfl⟩ <;> simp [results, Tryz.f37, go_sem, h2', h3', c2, c3]
set_option maxRecDepth 100000 in
theorem leaves_idle (w W : World) (tmps : Array Value) (R : Ending → World → Prop) (D B : Nat) (hD : w.heap.size + 2 ≤ D) (h2 : tmps.getD 2 undef = .pointer (some ⟨w.heap.size, 0, none⟩)) (h3 : tmps.getD 3 undef = .pointer (some ⟨w.heap.size + 1, 0, none⟩))
    (hK : W.heap[D]? = some (.deferred (some []))) (hR2 : W.heap[w.heap.size]? = some (.cells #[.pointer (some ⟨B, 0, none⟩)] 67 (0, 0))) (hR3 : W.heap[w.heap.size + 1]? = some (.cells #[.nilIface] 41 (0, 0)))
    (hR : ∀ W', LeftAs W W' D (w.heap.size + 1) → R (.returned (.tuple #[.pointer (some ⟨B, 0, none⟩), .nilIface])) W') : LeavesInM Fence.wide 0 Tryz.prog Tryz.f37 tmps R (rdDefers w D) .returning W := by
  refine ⟨by simp, .inl ⟨_, _, rfl, run_takeDeferred hK, ?_⟩⟩
  have k2 := (World.putObj_heap_other (o := .deferred none) (by omega : w.heap.size ≠ D)).trans hR2
  have k3 := (World.putObj_heap_other (o := .deferred none) (by omega : w.heap.size + 1 ≠ D)).trans hR3
  refine ⟨by simp, .inr ⟨(fun h => (by simp [Fence.wide] at h)), _, _, 66, #[.pointer (some ⟨w.heap.size + 1, 0, none⟩)], rfl, by simp [go_sem], fun _ _ => trivial, ?_⟩⟩
  refine (catch_idle _ ⟨w.heap.size + 1, 0, none⟩ _).mono ?_
  rintro e u' w'' ⟨rfl, rfl, rfl⟩
  exact ⟨_, results_read h2 h3 (cell_of_one k2) (cell_of_one k3) (.inl rfl), hR _ ⟨rfl, rfl, rfl, by simp, fun k h1 _ => World.putObj_heap_other h1⟩⟩
set_option maxRecDepth 100000 in
theorem leaves_caught (w W : World) (tmps : Array Value) (R : Ending → World → Prop) (D B b : Nat) (hD : w.heap.size + 2 ≤ D) (h2 : tmps.getD 2 undef = .pointer (some ⟨w.heap.size, 0, none⟩)) (h3 : tmps.getD 3 undef = .pointer (some ⟨w.heap.size + 1, 0, none⟩))
    (hK : W.heap[D]? = some (.deferred (some []))) (hR2 : W.heap[w.heap.size]? = some (.cells #[.pointer (some ⟨B, 0, none⟩)] 67 (0, 0))) (hR3 : W.heap[w.heap.size + 1]? = some (.cells #[.nilIface] 41 (0, 0)))
    (hR : ∀ W', LeftAs W W' D (w.heap.size + 1) → R (.returned (.tuple #[.pointer (some ⟨B, 0, none⟩), .iface 82 (.pointer (some ⟨b, 0, none⟩))])) W') : LeavesInM Fence.wide 0 Tryz.prog Tryz.f37 tmps R (rdDefers w D) (.panicking (chainOf b false)) W := by
  refine ⟨by simp, .inl ⟨_, _, rfl, run_takeDeferred hK, ?_⟩⟩
  have k2 := (World.putObj_heap_other (o := .deferred none) (by omega : w.heap.size ≠ D)).trans hR2
  have k3 := (World.putObj_heap_other (o := .deferred none) (by omega : w.heap.size + 1 ≠ D)).trans hR3
  refine ⟨by simp, .inr ⟨(fun h => (by simp [Fence.wide] at h)), _, _, 66, #[.pointer (some ⟨w.heap.size + 1, 0, none⟩)], rfl, by simp [go_sem], fun _ _ => trivial, ?_⟩⟩
  refine (catch_panicking _ ⟨w.heap.size + 1, 0, none⟩ b _ (cell_of_one k3) (free_of_one k3)).mono ?_
  rintro e u' w'' ⟨rfl, rfl, rfl⟩
  have j2 := (Below.heap_setCell (W.putObj D (.deferred none)) ⟨w.heap.size + 1, 0, none⟩ (.iface 82 (.pointer (some ⟨b, 0, none⟩))) w.heap.size (by dsimp only; omega)).trans k2
  have j3 := cells_set k3 (k := 0) (.iface 82 (.pointer (some ⟨b, 0, none⟩)))
  exact ⟨_, results_read h2 h3 (cell_of_one j2) (rd_cell 0 j3 rfl) (.inr ⟨_, _, rfl⟩), hR _ ⟨rfl, rfl, rfl, by simp [World.setCell], fun k h1 h2 => (Below.heap_setCell _ _ _ _ h2).trans (World.putObj_heap_other h1)⟩⟩
theorem own_same {W W' : World} {base : Nat} {e : TypeId} {sz n : Nat} {v : Value} {xs : List Value} (h : W.ownsRow base e sz v n xs) (hk : ∀ k, base ≤ k → (∃ o, W.heap[k]? = some o ∧ o.isCells = true) → W'.heap[k]? = W.heap[k]?) : W'.ownsRow base e sz v n xs := by
  refine ⟨h.1, ?_⟩
  rcases h.2 with h2 | ⟨g, c, cur, h1, h2, h3, h4⟩
  · exact .inl h2
  · exact .inr ⟨g, c, cur, h1, h2, (hk g h2 ⟨_, h3, rfl⟩).trans h3, h4⟩
theorem RdIs.same {W W' : World} {N B M : Nat} {st : PSt} {ve vv vx vp : Value} {us : List Value} (h : RdIs W N B M st ve vv vx vp us) (hs : W.heap.size ≤ W'.heap.size) (hB : W'.heap[B]? = W.heap[B]?) (hM : W'.heap[M]? = W.heap[M]?) (hk : ∀ k, N ≤ k → (∃ o, W.heap[k]? = some o ∧ o.isCells = true) → W'.heap[k]? = W.heap[k]?) : RdIs W' N B M st ve vv vx vp us := by
  obtain ⟨n, hn, es, clock, hmb, hmm⟩ := h.m
  exact ⟨hB.trans h.hb, Nat.le_trans h.nh hs, ⟨fun x hx => own_same (h.r.1 x hx) hk, h.r.2⟩, own_same h.x hk, h.ul, n, hn, es, clock, hM.trans hmb, hmm⟩
theorem Rd.same {W W' : World} {N B M : Nat} {st : PSt} (h : Rd W N B M st) (hs : W.heap.size ≤ W'.heap.size) (hB : W'.heap[B]? = W.heap[B]?) (hM : W'.heap[M]? = W.heap[M]?) (hk : ∀ k, N ≤ k → (∃ o, W.heap[k]? = some o ∧ o.isCells = true) → W'.heap[k]? = W.heap[k]?) : Rd W' N B M st := by
  obtain ⟨ve, vv, vx, vp, us, h⟩ := h
  exact (h.same hs hB hM hk).rd
/-- All that is left of a reading. -/
theorem read_left {w W0 W3 W4 W' : World} {D : Nat} {st : PSt} (hsz : W0.heap.size = w.heap.size + 1 + 1 + 1 + 1 + 1) (hb0 : Below w.heap.size w W0) (hf : Foot (w.heap.size + 1 + 1 + 1 + 1 + 1) (w.heap.size + 1 + 1 + 1) (w.heap.size + 1 + 1) W0 W3) (hr : Rd W3 (w.heap.size + 1 + 1 + 1 + 1 + 1) (w.heap.size + 1 + 1 + 1) (w.heap.size + 1 + 1) st)
    (h4 : W4.os = W3.os ∧ W4.tape = W3.tape ∧ W4.output = W3.output ∧ W3.heap.size ≤ W4.heap.size ∧ ∀ k, k < W3.heap.size → k ≠ w.heap.size → k ≠ w.heap.size + 1 → W4.heap[k]? = W3.heap[k]?) (hD : w.heap.size + 1 + 1 + 1 + 1 + 1 ≤ D) (hK : W4.heap[D]? = some (.deferred (some []))) (hl : LeftAs W4 W' D (w.heap.size + 1)) :
    Rd W' (w.heap.size + 1 + 1 + 1 + 1 + 1) (w.heap.size + 1 + 1 + 1) (w.heap.size + 1 + 1) st ∧ Below w.heap.size w W' := by
  obtain ⟨l1, l2, l3, l4, l5⟩ := hl
  obtain ⟨m1, m2, m3, m4, m5⟩ := h4
  have s3 : w.heap.size + 1 + 1 + 1 + 1 + 1 ≤ W3.heap.size := by have := hf.size; omega
  have step : ∀ k, k < W3.heap.size → k ≠ w.heap.size → k ≠ w.heap.size + 1 → k ≠ D → W'.heap[k]? = W3.heap[k]? := fun k h1 h2 h3 h4 => (l5 k h4 h3).trans (m5 k h1 h2 h3)
  constructor
  · refine hr.same (by omega) (step _ (by omega) (by omega) (by omega) (by omega)) (step _ (by omega) (by omega) (by omega) (by omega)) fun k hk ⟨o, ho, hc⟩ => step k (lt_of_heap ho) (by omega) (by omega) (fun e => ?_)
    subst e
    have := (m5 k (lt_of_heap ho) (by omega) (by omega)).symm.trans hK
    rw [ho] at this
    injection this with this
    subst this
    cases hc
  · refine ⟨l1.trans (m1.trans (hf.os.trans hb0.os)), l2.trans (m2.trans (hf.tape.trans hb0.tape)), l3.trans (m3.trans (hf.output.trans hb0.output)), by have := hb0.size; omega, fun k hk => ?_⟩
    have h1 := hb0.block k hk
    have h2 : W3.heap[k]? = W0.heap[k]? := by
      have hlt : k < W0.heap.size := by omega
      rw [Array.getElem?_eq_getElem hlt]
      exact hf.blk k _ (Array.getElem?_eq_getElem hlt) (by omega) (by omega) (.inl (by omega))
    exact (step k (by omega) (by omega) (by omega) (by omega)).trans (h2.trans h1)
set_option maxRecDepth 100000 in
set_option maxHeartbeats 8000000 in
theorem read_own (s : ByteArray) (w : World) (hs : s.size ≤ 1048576) :
    Calls Tryz.prog 37 #[.string s] w fun e w' => ∃ B M N ev, e = .returned (.tuple #[.pointer (some ⟨B, 0, none⟩), ev]) ∧ w.heap.size ≤ N ∧ Rd w' N B M (readS s).1 ∧ Below w.heap.size w w' ∧
      (((readS s).2 = none ∧ ev = .nilIface) ∨ ∃ x b, (readS s).2 = some x ∧ ev = .iface 82 (.pointer (some ⟨b, 0, none⟩)) ∧ w'.heap[b]? = some (faultObj (x.2.1 : Int) x.2.2 (.iface 44 (.int .i64 x.1)))) := by
  have hmf : ∀ (fn : Fn) (first cap : Array Value) (w : World), (Instr.makeFunc fn first cap).run Tryz.prog w = .ok (.func fn first cap) w := fun _ _ _ _ => rfl
  have hmm := @run_makeMap Tryz.prog
  refine callsIn_wide (n := 0) |>.1 ?_
  refine callsIn_of_wpFn Tryz.func37 rfl trivial ?_ rfl
  simp only [Tryz.ntmps37, List.size_toArray, List.length_cons, List.length_nil, Nat.reduceAdd, Nat.reduceSub, Array.replicate_succ, Array.replicate_zero, List.push_toArray, List.append_toArray, List.nil_append, List.cons_append]
  refine wpFn_seq (wpFn_of ?_)
  gi_wp2
  refine wpFn_seq (wpFn_of ?_)
  gi_wp2
  refine wpFn_seq (wpFn_of ?_)
  gi_wp2
  refine wpFn_seq (wpFn_seq (wpFn_of ?_))
  gi_wp2_with fail
  refine ⟨trivial, rfl, (callsIn_wide.2 (each_make s _)).mono ?_⟩
  rintro e w' ⟨rfl, rfl⟩
  gi_wp2_with fail
  refine wpFn_block ?_
  obtain ⟨hsz, hR2, hR3, hBn, hb0, hrd0⟩ := rdStart_facts w s
  change wpFn _ _ _ _ _ _ _ (rdStart w s)
  generalize rdStart w s = W0 at *
  have hN0 : w.heap.size + 1 + 1 + 1 + 1 + 1 ≤ W0.heap.size := by omega
  have hseq := each_seqP (fr := frR) (Bn := w.heap.size + 1 + 1 + 1 + 1) (s := s) (w := W0) (q := fun k => k < w.heap.size + 1 + 1 + 1 + 1 + 1 ∧ k ≠ w.heap.size + 1 + 1 + 1 ∧ k ≠ w.heap.size + 1 + 1) (by omega) ⟨by omega, by omega, by omega⟩ hBn
  refine rangeP Tryz.func37 (gf := 83) (lb := #[.pointer (some ⟨w.heap.size + 1 + 1 + 1 + 1, 0, none⟩)]) rfl (Go.Proofs.enters_of Tryz.func83 (by kernel_rfl) rfl) hseq (fun o ho => by cases o <;> first | rfl | cases ho) (fun k h => by have := h.1; omega) (fun _ => rfl)
    (ReadI W0 (w.heap.size + 1 + 1 + 1 + 1 + 1) (w.heap.size + 1 + 1 + 1) (w.heap.size + 1 + 1)) (ReadX W0 (w.heap.size + 1 + 1 + 1 + 1 + 1) (w.heap.size + 1 + 1 + 1) (w.heap.size + 1 + 1))
    (fun pre A B row hI hg hr => by
      obtain ⟨st, h1, h2, h3⟩ := hI
      have hr' : ∀ r, row = some r → w.heap.size + 1 + 1 + 1 + 1 + 1 ≤ r ∧ ∃ o : Obj, A.heap[r]? = some o ∧ o.isCells = false := fun r e => ⟨Nat.le_trans hN0 (hr r e).1, (hr r e).2⟩
      exact ⟨st, h1, h2.from' (by omega) (by omega) hg hr', h3.from' (by omega) hg (fun r e => (hr' r e).1)⟩)
    ⟨pSt0, rfl, hrd0, Foot.refl _ _ _ _⟩
    (fun x => { tmps := rdTmps w s (.int .i64 x.1) (.string x.2) (.int .i64 x.1) (.string x.2), defers := [] })
    ?assign ?body ?done ?stop
  case assign =>
    intro l' x W3 K hK
    gi_wp2
    exact hK
  case body =>
    rintro l' pre ⟨a, p⟩ W3 ⟨st, hst, hr3, hf3⟩ hpre hsz3
    unfold rdTmps
    obtain ⟨-, -, hmem, hlen⟩ := prefix_get hpre
    have hle := splS_le s
    have hat := (pieces_at hmem).1
    have hg := rdGood_of (by omega) hst
    have hps : (lowS p).size ≤ 1048576 := by rw [size_lowS]; dsimp only at hat; omega
    have LW := Lib.hid (fun w5 => lower_text p w5 (by rw [size_lowS] at hps; omega))
    have TK := Lib.hid (fun W1 (hb : Below W3.heap.size W3 W1) => takeP_own (hr3.below hb) hg a (lowS p) hps (piece_low hmem))
    have hbR := hf3.blk _ _ hR2 (by omega) (by omega) (.inl (by omega))
    have c2 := cell_of_one hbR
    have d2 : W3.drew.cell? ⟨w.heap.size, 0, none⟩ = some (.pointer (some ⟨w.heap.size + 1 + 1 + 1, 0, none⟩)) := c2
    have HBR := Lib.hid (fun W1 (hb : Below W3.heap.size W3 W1) => cell_of_one ((hb.block _ (lt_of_heap hbR)).trans hbR))
    have hB3 : Below W3.heap.size W3 W3 := Below.refl _ _
    have hBd : Below W3.heap.size W3 W3.drew := hB3.drew
    have HST := Lib.hid (runP_snoc (x := (a, p)) hst)
    have HF3 := Lib.hid hf3
    have HR3 := Lib.hid hr3
    have HM := Lib.hid hmem
    have HPRE := Lib.hid hpre
    have HSZ := Lib.hid hsz3
    have HAT := Lib.hid hat
    clear hst hr3 hf3 hpre hmem hlen hle hg hbR hsz3 hat hps
    cases ht : takeP st a (lowS p) with
    | error x =>
      apply wpIn_block
      apply wpIn_seq
      refine wpIn_region_any (by kernel_rfl) ?_
      refine wpAnyIn_round (by kernel_rfl) _ _ _ _ ?_
      change wpAnyIn _ _ _ _ _ _ _ _ _ (World.drew _)
      refine wpAnyIn_take (i := 1) (v := .int .i64 (a : Int)) rfl rfl (by kernel_rfl) (by kernel_rfl) (by kernel_rfl) (fun _ _ _ h => h) ⟨Or.inl ⟨by rfl, fun w => by go_simp⟩, fun _ => rfl⟩ ?_
      refine wpAnyIn_take (i := 2) (v := .string p) rfl rfl (by kernel_rfl) (by kernel_rfl) (by kernel_rfl) (fun _ _ _ h => h) ⟨Or.inl ⟨by rfl, fun w => by go_simp⟩, fun _ => rfl⟩ ?_
      refine wpAnyIn_ready (rs := [0, 3]) (by kernel_rfl) (by simp) ?_
      refine AllReadyIn.cons rfl (fun Kx hKx => ?_) (AllReadyIn.cons rfl (fun Kx hKx => ?_) AllReadyIn.nil)
      case' refine_1 =>
        go_simp
        refine hKx _ _ ?_
        clear hKx Kx
        refine wpAnyIn_ready (rs := [3]) (by kernel_rfl) (by simp) ?_
        refine AllReadyIn.cons rfl (fun Kx hKx => ?_) AllReadyIn.nil
        go_simp
        refine ⟨trivial, rfl, CallsIn.mono (callsIn_wide.2 (LW.out _)) ?_⟩
        rintro e w1 ⟨rfl, hb1⟩
        have hw1 : Below W3.heap.size W3 w1 := hBd.trans hb1
        refine hKx _ _ ?_
        clear hKx Kx
      case' refine_2 =>
        go_simp
        refine ⟨trivial, rfl, CallsIn.mono (callsIn_wide.2 (LW.out _)) ?_⟩
        rintro e w1 ⟨rfl, hb1⟩
        have hw1 : Below W3.heap.size W3 w1 := hBd.trans hb1
        have e2 := HBR.out w1 hw1
        refine hKx _ _ ?_
        clear hKx Kx
        refine wpAnyIn_ready (rs := [0]) (by kernel_rfl) (by simp) ?_
        refine AllReadyIn.cons rfl (fun Kx hKx => ?_) AllReadyIn.nil
        go_simp
        refine hKx _ _ ?_
        clear hKx Kx
      all_goals
        refine wpAnyIn_ready (rs := [4]) (by kernel_rfl) (by simp) ?_
        refine AllReadyIn.cons rfl (fun Kx hKx => ?_) AllReadyIn.nil
        have TK1 := Lib.hid (TK.out w1 hw1)
        have F1 := Lib.hid ((HF3.out).trans (Foot.of hw1))
        have KQ1 := Lib.hid (KeepQ.of_below (q := fun k => k < w.heap.size + 1 + 1 + 1 + 1 + 1 ∧ k ≠ w.heap.size + 1 + 1 + 1 ∧ k ≠ w.heap.size + 1 + 1) (hi := w.heap.size + 1 + 1 + 1 + 1 + 1) (fr := frR) hw1)
        have HW1 := Lib.hid hw1
        clear TK d2 c2 hB3 hBd hb1 hw1 LW
        go_simp
        refine ⟨trivial, rfl, CallsIn.mono (callsIn_wide.2 TK1.out) ?_⟩
        rintro e w2 hq
        rw [ht] at hq
        obtain ⟨s2, q, _⟩ | ⟨x', b, q, rfl, ⟨hf2, hr2⟩, hb2, hfo⟩ := hq
        · cases q
        · cases q
          have hs := HST.out
          rw [ht] at hs
          exact ⟨rfl, KQ1.out.trans (hf2.keepQ (by omega) (by omega)), st, _, b, hs, rfl, hr2, F1.out.trans hf2, hb2, hfo⟩
    | ok st' =>
      apply wpIn_block
      apply wpIn_seq
      refine wpIn_region_any (by kernel_rfl) ?_
      refine wpAnyIn_round (by kernel_rfl) _ _ _ _ ?_
      change wpAnyIn _ _ _ _ _ _ _ _ _ (World.drew _)
      refine wpAnyIn_take (i := 1) (v := .int .i64 (a : Int)) rfl rfl (by kernel_rfl) (by kernel_rfl) (by kernel_rfl) (fun _ _ _ h => h) ⟨Or.inl ⟨by rfl, fun w => by go_simp⟩, fun _ => rfl⟩ ?_
      refine wpAnyIn_take (i := 2) (v := .string p) rfl rfl (by kernel_rfl) (by kernel_rfl) (by kernel_rfl) (fun _ _ _ h => h) ⟨Or.inl ⟨by rfl, fun w => by go_simp⟩, fun _ => rfl⟩ ?_
      refine wpAnyIn_ready (rs := [0, 3]) (by kernel_rfl) (by simp) ?_
      refine AllReadyIn.cons rfl (fun Kx hKx => ?_) (AllReadyIn.cons rfl (fun Kx hKx => ?_) AllReadyIn.nil)
      case' refine_1 =>
        go_simp
        refine hKx _ _ ?_
        clear hKx Kx
        refine wpAnyIn_ready (rs := [3]) (by kernel_rfl) (by simp) ?_
        refine AllReadyIn.cons rfl (fun Kx hKx => ?_) AllReadyIn.nil
        go_simp
        refine ⟨trivial, rfl, CallsIn.mono (callsIn_wide.2 (LW.out _)) ?_⟩
        rintro e w1 ⟨rfl, hb1⟩
        have hw1 : Below W3.heap.size W3 w1 := hBd.trans hb1
        refine hKx _ _ ?_
        clear hKx Kx
      case' refine_2 =>
        go_simp
        refine ⟨trivial, rfl, CallsIn.mono (callsIn_wide.2 (LW.out _)) ?_⟩
        rintro e w1 ⟨rfl, hb1⟩
        have hw1 : Below W3.heap.size W3 w1 := hBd.trans hb1
        have e2 := HBR.out w1 hw1
        refine hKx _ _ ?_
        clear hKx Kx
        refine wpAnyIn_ready (rs := [0]) (by kernel_rfl) (by simp) ?_
        refine AllReadyIn.cons rfl (fun Kx hKx => ?_) AllReadyIn.nil
        go_simp
        refine hKx _ _ ?_
        clear hKx Kx
      all_goals
        refine wpAnyIn_ready (rs := [4]) (by kernel_rfl) (by simp) ?_
        refine AllReadyIn.cons rfl (fun Kx hKx => ?_) AllReadyIn.nil
        have TK1 := Lib.hid (TK.out w1 hw1)
        have F1 := Lib.hid ((HF3.out).trans (Foot.of hw1))
        have KQ1 := Lib.hid (KeepQ.of_below (q := fun k => k < w.heap.size + 1 + 1 + 1 + 1 + 1 ∧ k ≠ w.heap.size + 1 + 1 + 1 ∧ k ≠ w.heap.size + 1 + 1) (hi := w.heap.size + 1 + 1 + 1 + 1 + 1) (fr := frR) hw1)
        have HW1 := Lib.hid hw1
        clear TK d2 c2 hB3 hBd hb1 hw1 LW
        go_simp
        refine ⟨trivial, rfl, CallsIn.mono (callsIn_wide.2 TK1.out) ?_⟩
        rintro e w2 hq
        rw [ht] at hq
        obtain ⟨rfl, hf2, hr2⟩ := takeQ_ok hq
        have h22 := hf2.blk _ _ ((HW1.out.block _ (by have := lt_of_heap hR2; have := HSZ.out; omega)).trans (HF3.out.blk _ _ hR2 (by omega) (by omega) (.inl (by omega)))) (by omega) (by omega) (.inl (by omega))
        have e22 := cell_of_one h22
        obtain ⟨ve, vv, vx, vp, us, h2⟩ := hr2
        have g11 : w2.cell? ⟨w.heap.size + 1 + 1 + 1, 11, none⟩ = some (.bool st'.must) := rd_cell 11 h2.hb rfl
        have g8 : w2.cell? ⟨w.heap.size + 1 + 1 + 1, 8, none⟩ = some (.int .i64 (st'.last : Int)) := rd_cell 8 h2.hb rfl
        have gf8 := cells_frozen 8 h2.hb
        have H2 := Lib.hid h2
        have HS := HST.out
        rw [ht] at HS
        have HS1 := Lib.hid HS
        have a0 : (0 : Int) ≤ (a : Int) := by omega
        have a1 : (0 : Int) ≤ (p.size : Int) := by omega
        have a2 : (a : Int) + (p.size : Int) ≤ 1048576 := by have := HAT.out; dsimp only at this; omega
        have KQ2 := Lib.hid (KQ1.out.trans (hf2.keepQ (by omega) (by omega)))
        have F2 := Lib.hid (F1.out.trans hf2)
        refine hKx _ _ ?_
        clear hKx Kx hq h22 h2 HS hf2
        refine wpAnyIn_done (by kernel_rfl) ?_ _
        cases hm : st'.must with
        | true =>
          rw [hm] at g11
          have HE := Lib.hid (show endP st' a p.size = st' by unfold endP; rw [if_pos hm])
          clear hm
          gi_wp2
          exact ⟨KQ2.out, st', by have := HS1.out; rw [this, HE.out], H2.out.rd, F2.out⟩
        | false =>
          rw [hm] at g11
          have HE := Lib.hid (show endP st' a p.size = { st' with last := a + p.size } by unfold endP; rw [if_neg (by rw [hm]; decide)])
          clear hm
          gi_wp2
          have hg := grown_setF (World.grownBy.refl w2 (some (w.heap.size + 1 + 1 + 1))) 8 (.int .i64 ((a : Int) + (p.size : Int)))
          have hft : Foot (w.heap.size + 1 + 1 + 1 + 1 + 1) (w.heap.size + 1 + 1 + 1) (w.heap.size + 1 + 1) w2 _ := Foot.put hg
          refine ⟨KQ2.out.trans (hft.keepQ (by omega) (by omega)), { st' with last := a + p.size }, by have := HS1.out; rw [this, HE.out], (H2.out.put hg (st' := { st' with last := a + p.size }) ?_ rfl rfl rfl rfl rfl).rd, F2.out.trans hft⟩
          exact cells_set H2.out.hb (k := 8) (.int .i64 ((a : Int) + (p.size : Int)))
  case done =>
    rintro D ys W3 hD rfl ⟨st, hst, hr3, hf3⟩ hK
    have hR23 := hf3.blk _ _ hR2 (by omega) (by omega) (.inl (by omega))
    have hR33 := hf3.blk _ _ hR3 (by omega) (by omega) (.inl (by omega))
    have c2 := cell_of_one hR23
    have f2 := free_of_one hR23
    have c3 := cell_of_one hR33
    have f3 := free_of_one hR33
    have HR23 := Lib.hid hR23
    have HR33 := Lib.hid hR33
    obtain ⟨ve, vv, vx, vp, us, h3⟩ := hr3
    have g11 : W3.cell? ⟨w.heap.size + 1 + 1 + 1, 11, none⟩ = some (.bool st.must) := rd_cell 11 h3.hb rfl
    have H3 := Lib.hid h3
    have HST := Lib.hid hst
    have HF3 := Lib.hid hf3
    have HK := Lib.hid hK
    have FL := Lib.hid (failP_own 10 s.size sEnd W3 (by decide))
    have hND : w.heap.size + 1 + 1 + 1 + 1 + 1 ≤ D := by omega
    clear hR23 hR33 h3 hst hf3 hK
    refine wpFn_of ?_
    cases hm : st.must with
    | false =>
      rw [hm] at g11
      have HE := Lib.hid (show readS s = (st, none) by unfold readS; rw [HST.out]; unfold finP; dsimp only; rw [if_neg (by rw [hm]; decide)])
      clear hm
      gi_wp2_with fail
      have k2 := (Below.heap_setCell (W3.setCell ⟨w.heap.size, 0, none⟩ (.pointer (some ⟨w.heap.size + 1 + 1 + 1, 0, none⟩))) ⟨w.heap.size + 1, 0, none⟩ .nilIface w.heap.size (by dsimp only; omega)).trans (cells_set HR23.out (k := 0) (.pointer (some ⟨w.heap.size + 1 + 1 + 1, 0, none⟩)))
      have k3 := cells_set ((Below.heap_setCell W3 ⟨w.heap.size, 0, none⟩ (.pointer (some ⟨w.heap.size + 1 + 1 + 1, 0, none⟩)) (w.heap.size + 1) (by dsimp only; omega)).trans HR33.out) (k := 0) .nilIface
      have kD := ((Below.heap_setCell (W3.setCell ⟨w.heap.size, 0, none⟩ (.pointer (some ⟨w.heap.size + 1 + 1 + 1, 0, none⟩))) ⟨w.heap.size + 1, 0, none⟩ .nilIface D (by dsimp only; omega)).trans (Below.heap_setCell W3 ⟨w.heap.size, 0, none⟩ (.pointer (some ⟨w.heap.size + 1 + 1 + 1, 0, none⟩)) D (by dsimp only; omega))).trans HK.out
      refine leaves_idle w _ _ _ D (w.heap.size + 1 + 1 + 1) (by omega) rfl rfl kD k2 k3 fun W' hl => ?_
      obtain ⟨q1, q2⟩ := read_left (W4 := (W3.setCell ⟨w.heap.size, 0, none⟩ (.pointer (some ⟨w.heap.size + 1 + 1 + 1, 0, none⟩))).setCell ⟨w.heap.size + 1, 0, none⟩ .nilIface) hsz hb0 HF3.out H3.out.rd ⟨rfl, rfl, rfl, by simp [World.setCell], fun k _ h1 h2 => (Below.heap_setCell _ _ _ _ h2).trans (Below.heap_setCell _ _ _ _ h1)⟩ hND kD hl
      exact ⟨w.heap.size + 1 + 1 + 1, w.heap.size + 1 + 1, w.heap.size + 1 + 1 + 1 + 1 + 1, _, rfl, by omega, by rw [HE.out]; exact q1, q2, .inl ⟨by rw [HE.out], rfl⟩⟩
    | true =>
      rw [hm] at g11
      have HE := Lib.hid (show readS s = (st, some (10, s.size, sEnd)) by unfold readS; rw [HST.out]; unfold finP; dsimp only; rw [if_pos hm])
      clear hm
      gi_wp2_with fail
      refine ⟨trivial, rfl, CallsIn.mono (callsIn_wide.2 FL.out) ?_⟩
      rintro e W4 ⟨⟨b, hbN, rfl, hfo⟩, hb4⟩
      have hl2 := lt_of_heap HR23.out
      have hl3 := lt_of_heap HR33.out
      have kD := (hb4.block _ (lt_of_heap HK.out)).trans HK.out
      refine leaves_caught w W4 _ _ D (w.heap.size + 1 + 1 + 1) b (by omega) rfl rfl kD ((hb4.block _ hl2).trans HR23.out) ((hb4.block _ hl3).trans HR33.out) fun W' hl => ?_
      obtain ⟨q1, q2⟩ := read_left hsz hb0 HF3.out H3.out.rd ⟨hb4.os, hb4.tape, hb4.output, hb4.size, fun k h _ _ => hb4.block k h⟩ hND kD hl
      have s3 : w.heap.size + 1 + 1 + 1 + 1 + 1 ≤ W3.heap.size := by have := HF3.out.size; omega
      refine ⟨w.heap.size + 1 + 1 + 1, w.heap.size + 1 + 1, w.heap.size + 1 + 1 + 1 + 1 + 1, _, rfl, by omega, by rw [HE.out]; exact q1, q2, .inr ⟨(10, s.size, sEnd), b, by rw [HE.out], rfl, ?_⟩⟩
      refine (hl.2.2.2.2 b (fun e => ?_) (by omega)).trans hfo
      rw [e, kD] at hfo
      cases hfo
  case stop =>
    rintro D ch pre W3 hD hpre ⟨st, x, b, hst, rfl, hr3, hf3, hNb, hfo⟩ hK
    have hR23 := hf3.blk _ _ hR2 (by omega) (by omega) (.inl (by omega))
    have hR33 := hf3.blk _ _ hR3 (by omega) (by omega) (.inl (by omega))
    refine leaves_caught w W3 (rdTmps w s undef undef undef undef) _ D (w.heap.size + 1 + 1 + 1) b (by omega) rfl rfl hK hR23 hR33 fun W' hl => ?_
    obtain ⟨q1, q2⟩ := read_left hsz hb0 hf3 hr3 ⟨rfl, rfl, rfl, Nat.le_refl _, fun k _ _ _ => rfl⟩ (by omega) hK hl
    have HE : readS s = (st, some x) := by
      obtain ⟨r, hr⟩ := hpre
      unfold readS
      rw [← hr, runP_append, hst]
      rfl
    refine ⟨w.heap.size + 1 + 1 + 1, w.heap.size + 1 + 1, w.heap.size + 1 + 1 + 1 + 1 + 1, _, rfl, by omega, by rw [HE]; exact q1, q2, .inr ⟨x, b, by rw [HE], rfl, ?_⟩⟩
    refine (hl.2.2.2.2 b (fun e => ?_) (by omega)).trans hfo
    rw [e, hK] at hfo
    cases hfo
end Go.Proofs.YtpnhjpplfjamkaaGreatDoor
