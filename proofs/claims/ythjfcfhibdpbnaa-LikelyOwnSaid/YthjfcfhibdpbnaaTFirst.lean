/-
  Package likely: the first row of the keys that are asked for.
-/
import Derived.Test.YthjfcfhibdpbnaaTSeq
import Derived.Test.YthjfcfhibdpbnaaTRange
namespace Go.Proofs.Ythjfcfhibdpbnaa
open Go Go.RowKit

attribute [local go_sem] Oper.semAt_some

/-- What `first` keeps while it runs. -/
structure FiS (w : World) (ao : Option Addr) (N cap n : Nat) (A : List KT) (f : KT → Nat) (W : World) : Prop where
  b : Below w.heap.size w W
  a : W.heap[w.heap.size]? = some (.cells #[.slice ao N cap] 31 (0, 0))
  r : W.heap[w.heap.size + 1]? = some (.cells #[.string ⟨#[]⟩, .string ⟨#[]⟩, .string ⟨#[]⟩, .string ⟨#[]⟩, .string ⟨#[]⟩, .string ⟨#[]⟩] 61 (0, 0))
  o : W.heap[w.heap.size + 2]? = some (.cells #[.bool false] 4 (0, 0))
  x : W.heap[w.heap.size + 4]? = some (.cells #[.map (some (w.heap.size + 3))] 105 (0, 0))
  m : PlcO W (w.heap.size + 3) n A f
theorem FiS.keep {w : World} {ao : Option Addr} {N cap n : Nat} {A : List KT} {f : KT → Nat} {W W' : World} {row : Option Nat} (h : FiS w ao N cap n A f W) (hg : W.grownBy W' row) (hr : ∀ r, row = some r → w.heap.size + 5 ≤ r) : FiS w ao N cap n A f W' := by
  have hk : ∀ k, k < w.heap.size + 5 → some k ≠ row := fun k hk e => by have := hr k e.symm; omega
  have hlt := lt_blockT h.x
  exact ⟨h.b.grown hg (Nat.le_of_lt (lt_blockT h.a)) (fun r e => by have := hr r e; omega), (hg.block _ (by omega) (hk _ (by omega))).trans h.a, (hg.block _ (by omega) (hk _ (by omega))).trans h.r, (hg.block _ (by omega) (hk _ (by omega))).trans h.o, (hg.block _ (by omega) (hk _ (by omega))).trans h.x, h.m.block (hg.block _ (by omega) (hk _ (by omega)))⟩
theorem FiS.put {w : World} {ao : Option Addr} {N cap n m : Nat} {A B : List KT} {f g : KT → Nat} {W W' : World} (h : FiS w ao N cap n A f W) (hg : W.grownBy W' (some (w.heap.size + 3))) (hm : PlcO W' (w.heap.size + 3) m B g) : FiS w ao N cap m B g W' := by
  have hk : ∀ k, k ≠ w.heap.size + 3 → some k ≠ some (w.heap.size + 3) := fun k hk e => hk (Option.some.inj e)
  have hlt := lt_blockT h.x
  exact ⟨h.b.grown hg (Nat.le_of_lt (lt_blockT h.a)) (fun r e => by cases e; omega), (hg.block _ (by omega) (hk _ (by omega))).trans h.a, (hg.block _ (by omega) (hk _ (by omega))).trans h.r, (hg.block _ (by omega) (hk _ (by omega))).trans h.o, (hg.block _ (by omega) (hk _ (by omega))).trans h.x, hm⟩
theorem FiS.below {w : World} {ao : Option Addr} {N cap n : Nat} {A : List KT} {f : KT → Nat} {W W' : World} (h : FiS w ao N cap n A f W) (hb : Below W.heap.size W W') : FiS w ao N cap n A f W' := h.keep (row := none) ⟨hb.os, hb.tape, hb.output, hb.size, fun j hj _ => hb.block j hj⟩ (fun r e => by cases e)
theorem FiS.keep' {w : World} {ao : Option Addr} {N cap n : Nat} {A : List KT} {f g : KT → Nat} {W : World} (h : FiS w ao N cap n A f W) (hf : ∀ k, hasD A k = true → f k = g k) : FiS w ao N cap n A g W :=
  ⟨h.b, h.a, h.r, h.o, h.x, h.m.congr (fun _ => rfl) hf⟩
theorem fi_start (w : World) (ao : Option Addr) (N cap : Nat) (f : KT → Nat) : FiS w ao N cap 0 [] f (((((w.alloc (.cells #[.slice ao N cap] 31)).alloc (.cells #[.string ⟨#[]⟩, .string ⟨#[]⟩, .string ⟨#[]⟩, .string ⟨#[]⟩, .string ⟨#[]⟩, .string ⟨#[]⟩] 61)).alloc (.cells #[.bool false] 4)).alloc (.map #[] 0)).alloc (.cells #[.map (some (w.heap.size + 3))] 105)) := by
  obtain ⟨W1, hW1⟩ : ∃ W1, w.alloc (.cells #[.slice ao N cap] 31) = W1 := ⟨_, rfl⟩
  obtain ⟨W2, hW2⟩ : ∃ W2, W1.alloc (.cells #[.string ⟨#[]⟩, .string ⟨#[]⟩, .string ⟨#[]⟩, .string ⟨#[]⟩, .string ⟨#[]⟩, .string ⟨#[]⟩] 61) = W2 := ⟨_, rfl⟩
  obtain ⟨W3, hW3⟩ : ∃ W3, W2.alloc (.cells #[.bool false] 4) = W3 := ⟨_, rfl⟩
  obtain ⟨W4, hW4⟩ : ∃ W4, W3.alloc (.map #[] 0) = W4 := ⟨_, rfl⟩
  obtain ⟨W5, hW5⟩ : ∃ W5, W4.alloc (.cells #[.map (some (w.heap.size + 3))] 105) = W5 := ⟨_, rfl⟩
  have z1 : W1.heap.size = w.heap.size + 1 := by rw [← hW1]; simp
  have z2 : W2.heap.size = w.heap.size + 2 := by rw [← hW2]; simp [z1]
  have z3 : W3.heap.size = w.heap.size + 3 := by rw [← hW3]; simp [z2]
  have z4 : W4.heap.size = w.heap.size + 4 := by rw [← hW4]; simp [z3]
  have n1 : W1.heap[w.heap.size]? = some (.cells #[.slice ao N cap] 31 (0, 0)) := by rw [← hW1]; exact World.alloc_heap_new w _
  have n2 : W2.heap[w.heap.size + 1]? = some (.cells #[.string ⟨#[]⟩, .string ⟨#[]⟩, .string ⟨#[]⟩, .string ⟨#[]⟩, .string ⟨#[]⟩, .string ⟨#[]⟩] 61 (0, 0)) := by rw [← hW2, ← z1]; exact World.alloc_heap_new W1 _
  have n3 : W3.heap[w.heap.size + 2]? = some (.cells #[.bool false] 4 (0, 0)) := by rw [← hW3, ← z2]; exact World.alloc_heap_new W2 _
  have n4 : PlcO W4 (w.heap.size + 3) 0 [] f := by rw [← hW4, ← z3]; exact PlcO.start W3 f
  have n5 : W5.heap[w.heap.size + 4]? = some (.cells #[.map (some (w.heap.size + 3))] 105 (0, 0)) := by rw [← hW5, ← z4]; exact World.alloc_heap_new W4 _
  have b12 : Below W1.heap.size W1 W2 := by rw [← hW2]; exact (Below.refl _ _).alloc (Nat.le_refl _) _
  have b23 : Below W2.heap.size W2 W3 := by rw [← hW3]; exact (Below.refl _ _).alloc (Nat.le_refl _) _
  have b34 : Below W3.heap.size W3 W4 := by rw [← hW4]; exact (Below.refl _ _).alloc (Nat.le_refl _) _
  have b45 : Below W4.heap.size W4 W5 := by rw [← hW5]; exact (Below.refl _ _).alloc (Nat.le_refl _) _
  have b01 : Below w.heap.size w W1 := by rw [← hW1]; exact (Below.refl _ _).alloc (Nat.le_refl _) _
  rw [hW1, hW2, hW3, hW4, hW5]
  exact ⟨(((b01.trans (b12.mono (by omega))).trans (b23.mono (by omega))).trans (b34.mono (by omega))).trans (b45.mono (by omega)),
    (b45.block _ (by omega)).trans ((b34.block _ (by omega)).trans ((b23.block _ (by omega)).trans ((b12.block _ (by omega)).trans n1))),
    (b45.block _ (by omega)).trans ((b34.block _ (by omega)).trans ((b23.block _ (by omega)).trans n2)),
    (b45.block _ (by omega)).trans ((b34.block _ (by omega)).trans n3), n5, n4.below b45⟩

def lr0 : Lr := ⟨⟨#[]⟩, ⟨#[]⟩, ⟨#[]⟩, ⟨#[]⟩, ⟨#[]⟩, ⟨#[]⟩⟩
def lrV (y : Lr) : Value := .agg #[.string y.l, .string y.s, .string y.r, .string y.tl, .string y.ts, .string y.tr]
def firstY (L : List Lr) (A : List KT) : Lr := (firstT L A).getD lr0
def firstB (L : List Lr) (A : List KT) : Bool := (firstT L A).isSome
set_option maxRecDepth 100000 in
theorem sizeLrT : (Try.prog.info? 61).map (·.size) = some 6 := by kernel_rfl
theorem loadVar_boolT {P : Program} {w : World} {t t2 : TypeId} {g : Nat} {b : Bool} (hg : w.heap[g]? = some (.cells #[.bool b] t2 (0, 0))) (hu : P.underlying t = some .bool) : (loadVar t ⟨g, 0, none⟩).run P w = .ok (.bool b) w := by
  have hc := cell_of_one hg
  have ha : (isAgg t).run P w = .ok false w := by
    unfold isAgg
    rw [Sem.run_bind, run_underlying hu w]
    rfl
  unfold loadVar
  simp [ha, hc, go_sem]
theorem results_two_cells {P : Program} {fn : Func} {p q : Tmp} {ty tq : TypeId} (h : fn.results = #[.cell p ty, .cell q tq]) (tmps : Array Value) (w : World) (g g2 : Nat) (t t2 : TypeId) (cs : Array Value) (fr : Nat × Nat) (d : TypeDesc) (b : Bool)
    (hp : tmps.getD p undef = .pointer (some ⟨g, 0, none⟩)) (hq : tmps.getD q undef = .pointer (some ⟨g2, 0, none⟩)) (hg : w.heap[g]? = some (.cells cs t fr)) (hg2 : w.heap[g2]? = some (.cells #[.bool b] t2 (0, 0)))
    (hu : P.underlying ty = some d) (hd : (match d with | .struct _ | .array _ _ => true | _ => false) = true) (hi : (P.info? ty).map (·.size) = some cs.size) (hu2 : P.underlying tq = some .bool) :
    (results fn tmps).run P w = .ok (.tuple #[.agg cs, .bool b]) w := by
  have hp' : tmps[p]?.getD undef = .pointer (some ⟨g, 0, none⟩) := by simpa using hp
  have hq' : tmps[q]?.getD undef = .pointer (some ⟨g2, 0, none⟩) := by simpa using hq
  simp [results, h, hp', hq', asAddr, run_loadVar_row w g t ty cs fr d hg hu hd hi, loadVar_boolT hg2 hu2]

theorem wpListIn_store_rowT {P : Program} {F : Fence} {n : Nat} {w : World} {ops : Array Oper} {rest : List Oper} {o : Oper} {a : Act} {Q : Exit → Act → World → Prop} (hgd : o.guard = none) (ty : TypeId) (x y : Operand) (ho : o.op = .store ty x y)
    (g : Nat) (cells : Array Value) (hx : a.eval x = .pointer (some ⟨g, 0, none⟩)) (hy : a.eval y = .agg cells) (t : TypeId) (old : Array Value) (hg : w.heap[g]? = some (.cells old t (0, 0))) (hi : (P.info? ty).map (·.size) = some cells.size)
    (hold : old.size = cells.size) (h1 : cells.all (·.oneCell') = true) (hK : wpListIn F n P ops Q rest (a.put o.dst undef) (w.setRow g cells)) : wpListIn F n P ops Q (o :: rest) a w := by
  refine wpListIn_plain hgd fun K hK' => ?_
  unfold Oper.wpIn
  refine ⟨?_, ?_⟩
  · simp [Oper.about, ho]
  · rw [Oper.semAt_plain F _ _ (by rw [ho]; intro c hc'; cases hc')]
    simp only [execOp, ho, hx, hy, Instr.storeAt, Instr.sureAddr, Sem.run_bind, Sem.run_pure, Result.andThen_ok, run_storeVar_row w g t ty old cells hg hi hold h1]
    exact hK' _ _ hK
theorem setRow_grownT (w : World) (g : Nat) (cs : Array Value) : w.grownBy (w.setRow g cs) (some g) := ⟨rfl, rfl, rfl, by simp, fun j _ hj => setRow_other _ _ _ _ (fun e => hj (by rw [e]))⟩
theorem one_setT {w : World} {g : Nat} {u v : Value} {t : TypeId} (h : w.heap[g]? = some (.cells #[u] t (0, 0))) : (w.setCell ⟨g, 0, none⟩ v).heap[g]? = some (.cells #[v] t (0, 0)) ∧ w.grownBy (w.setCell ⟨g, 0, none⟩ v) (some g) :=
  ⟨heap_setCell_same w g 0 #[u] t v h, ⟨rfl, rfl, rfl, by simp, fun j _ hj => heap_setCell_other w ⟨g, 0, none⟩ j v (fun e => hj (by simp [e]))⟩⟩
theorem put_sizeT {W : World} {l : Nat} {o : Obj} : (W.putObj l o).heap.size = W.heap.size := by simp [World.putObj]
theorem put_grownT {W : World} {l : Nat} {o : Obj} : W.grownBy (W.putObj l o) (some l) := ⟨rfl, rfl, rfl, by simp [World.putObj], fun j _ hj => World.putObj_heap_other (fun e => hj (by rw [e]))⟩

set_option maxRecDepth 100000 in
set_option maxHeartbeats 4000000 in
theorem first_any (v : Value) (L : List Lr) (gf : Nat) (lb : Array Value) (A : List KT) (w : World) (hv : RowL w v L) (hL : L.length ≤ 4000) (hS : RowS L) (hA : ∀ k ∈ A, KST k) (hAl : A.length ≤ 100)
    (hseq : SeqQ Try.prog gf lb encK (fun k => k < w.heap.size) (fun _ => false) (fun ys => ys = A) (fun pre => pre <+: A) w) (eg : ∀ args w, (callFunc gf args).run Try.prog w = .ok (.enter gf args) w) :
    Calls Try.prog 41 #[v, .func (.func gf) #[] lb] w fun e w' => e = .returned (.tuple #[lrV (firstY L A), .bool (firstB L A)]) ∧ Below w.heap.size w w' := by
  have hmm := @run_makeMap Try.prog
  obtain ⟨ao, cap, rfl⟩ := hv.shape
  have HO := Lib.hid hv.open
  have HF0 := Lib.hid (fi_start w ao L.length cap (fun _ => L.length))
  have HSQ := Lib.hid hseq
  have HS := Lib.hid hS
  have HA := Lib.hid hA
  clear hv hseq hS hA
  refine callsIn_wide (n := 0) |>.1 ?_
  refine callsIn_of_wp_marks Try.func41 rfl trivial ?_ rfl
  simp only [Try.ntmps41, List.size_toArray, List.length_cons, List.length_nil, Nat.reduceAdd, Nat.reduceSub, Array.replicate_succ, Array.replicate_zero, List.push_toArray, List.append_toArray, List.nil_append, List.cons_append]
  gi_wp2_with fail
  simp only [Nat.add_assoc, Nat.reduceAdd]
  obtain ⟨W5, hW5⟩ : ∃ W5, (((((w.alloc (.cells #[.slice ao L.length cap] 31)).alloc (.cells #[.string ⟨#[]⟩, .string ⟨#[]⟩, .string ⟨#[]⟩, .string ⟨#[]⟩, .string ⟨#[]⟩, .string ⟨#[]⟩] 61)).alloc (.cells #[.bool false] 4)).alloc (.map #[] 0)).alloc (.cells #[.map (some (w.heap.size + 3))] 105)) = W5 := ⟨_, rfl⟩
  rw [hW5] at HF0 ⊢
  clear hW5 hmm
  have hlt5 : w.heap.size + 5 ≤ W5.heap.size := by have := lt_blockT HF0.out.x; omega
  have hsq1 : SeqQ Try.prog gf lb encK (fun k => k < w.heap.size) (fun _ => false) (fun ys => ys = A) (fun pre => pre <+: A) W5 := HSQ.out.later HF0.out.b
  refine rangeA (gf := gf) (lb := lb) rfl eg hsq1 (fun _ h => by cases h) (fun k hk => by have hk : k < w.heap.size := hk; omega) (fun _ => rfl)
    (fun pre W => FiS w ao L.length cap pre.length pre (fun _ => L.length) W) (fun _ _ _ => False)
    (fun s A B row hs hg hr => hs.keep hg (fun r e => Nat.le_trans hlt5 (hr r e).1)) (fun c s A B row hs hg hr => hs) HF0.out
    (fun x N => { tmps := #[.slice ao L.length cap, .func (.func gf) #[] lb, .pointer (some ⟨w.heap.size, 0, none⟩), undef, .pointer (some ⟨w.heap.size + 1, 0, none⟩), .pointer (some ⟨w.heap.size + 2, 0, none⟩), .pointer (some ⟨w.heap.size + 4, 0, none⟩), .pointer (some ⟨N, 0, none⟩), undef, undef, undef, undef, undef, undef, undef, .map (some (w.heap.size + 3)), .func (.func gf) #[] lb, .agg #[.string x.1, .string x.2.1, .string x.2.2], undef, undef, undef, undef, undef, undef, undef, undef, undef, undef, undef, undef, undef, undef, undef, undef, undef, undef, undef, undef, undef, undef, undef, undef, undef, undef, undef, undef, undef, undef, undef, undef, undef, undef, undef, undef, undef, undef, undef, undef, undef, undef, undef, undef, undef], defers := [] }) (fun x => .cells #[.string x.1, .string x.2.1, .string x.2.2] 62)
    ?assign ?body ?done ?stop
  case stop => rintro D c pre W hD hpre hf; exact hf.elim
  case assign =>
    intro l' x W3 K hK
    unfold encK
    gi_wp2_with fail
    exact hK
  case body =>
    rintro l' pre ⟨p, q, r⟩ W3 N hI hpre hN hNlt hob
    obtain ⟨y0, y1, y2⟩ := cells3T hob
    dsimp only at y0 y1 y2
    have hmem : (p, q, r) ∈ A := hpre.subset (by simp)
    have hks := HA.out _ hmem
    have hpl : pre.length ≤ 100 := by have := hpre.length_le; rw [List.length_append] at this; simp at this; omega
    obtain ⟨w6, hrun, hP6, hg6⟩ := hI.m.put (by omega) hks L.length (by omega)
    have d2 := cell_of_one hI.a
    have d6 := cell_of_one hI.x
    have HI := Lib.hid hI
    have HI6 := Lib.hid (show FiS w ao L.length cap (pre ++ [(p, q, r)]).length (pre ++ [(p, q, r)]) (fun _ => L.length) w6 by
      rw [List.length_append]
      exact (hI.put hg6 hP6).keep' (fun k _ => by split <;> rfl))
    have HG6 := Lib.hid hg6
    clear hI hpre hob hmem hks hP6 hg6
    gi_wp2_with fail
    exact ⟨KeepQ.grown HG6.out (fun r e => by cases e; exact ⟨by show ¬ (w.heap.size + 3 < w.heap.size); omega, .inl (by omega)⟩), HI6.out⟩
  case done =>
    rintro D1 ys W3 hD1 hys hI hK1
    obtain rfl : A = ys := hys.symm
    have HI := Lib.hid (show FiS w ao L.length cap (A.length + 0) A (fun k => plN L k 0) W3 from hI)
    have HK1 := Lib.hid hK1
    have d2 := cell_of_one hI.a
    have hDn : w.heap.size + 5 ≤ D1 := Nat.le_trans hlt5 hD1
    clear hI hK1 hsq1
    gi_wp2_with fail
    clear d2
    gi_loopw [24] (fun i wr => ∃ n : Nat, n ≤ L.length ∧ i = .int .i64 (n : Int) ∧ Hid (FiS w ao L.length cap (A.length + n) A (fun k => plN L k n) wr) ∧ Hid (wr.heap[D1]? = some (.deferred (some [])))) (fun i _ => L.length - (intOf i).toNat)
    case atStart => exact ⟨0, Nat.zero_le _, rfl, HI, HK1⟩
    case round =>
      obtain ⟨n, hn, rfl, HI, HK1⟩ := hrel
      have d2 := cell_of_one HI.out.a
      have d6 := cell_of_one HI.out.x
      by_cases hlt : n < L.length
      · have hni : (n : Int) < (L.length : Int) := by omega
        have hn0 : (0 : Int) ≤ (n : Int) := by omega
        have hn4 : (n : Int) ≤ 4000 := by omega
        obtain ⟨x, hx⟩ : ∃ x, L[n]? = some x := ⟨_, List.getElem?_eq_getElem hlt⟩
        obtain ⟨g, o, rfl, hcc⟩ := HO.out n x hx
        obtain ⟨c0, c1, c2, c3, c4, c5⟩ := hcc wr HI.out.b
        have hks : KST (x.l, x.s, x.r) := HS.out x (List.mem_of_getElem? hx)
        have HPS := Lib.hid (fun k => plN_succ k hx)
        have HIb := Lib.hid ((HI.out.below ((Below.refl _ wr).alloc (Nat.le_refl _) (.cells #[.string x.l, .string x.s, .string x.r, .string x.tl, .string x.ts, .string x.tr] 61))).below ((Below.refl _ _).alloc (Nat.le_refl _) (.cells #[.string x.l, .string x.s, .string x.r] 62)))
        have HKb := Lib.hid ((Below.heap_alloc (wr.alloc (.cells #[.string x.l, .string x.s, .string x.r, .string x.tl, .string x.ts, .string x.tr] 61)) (.cells #[.string x.l, .string x.s, .string x.r] 62) _ (Nat.lt_of_lt_of_le (lt_blockT HK1.out) (by simp))).trans ((Below.heap_alloc wr _ _ (lt_blockT HK1.out)).trans HK1.out))
        have e6 := cell_of_one HIb.out.x
        have hlk := HIb.out.m.look2 hks
        cases hd : hasD A (x.l, x.s, x.r) with
        | false =>
          rw [hd] at hlk
          have HI' := Lib.hid (show FiS w (some ⟨g, o, none⟩) L.length cap (A.length + (n + 1)) A (fun k => plN L k (n + 1)) _ from
            (⟨HIb.out.b, HIb.out.a, HIb.out.r, HIb.out.o, HIb.out.x, (HIb.out.m.mono (by omega)).congr (fun _ => rfl) (fun k hk => by
              rw [HPS.out k, if_neg]
              rintro rfl
              have hd' : hasD A (keyR x) = false := hd
              rw [hd'] at hk; cases hk)⟩ : FiS w (some ⟨g, o, none⟩) L.length cap (A.length + (n + 1)) A (fun k => plN L k (n + 1)) _))
          clear hd hx hcc hks hlt
          gi_wp2_with fail
          go_roundw
          case rel => exact ⟨n + 1, by omega, by go_num, HI', HKb⟩
          case measure => simp [intOf]; omega
        | true =>
          rw [hd, if_pos rfl] at hlk
          have hmle := plN_le L (x.l, x.s, x.r) n hn
          have HPM := Lib.hid (show plN L (x.l, x.s, x.r) n = plN L (x.l, x.s, x.r) n from rfl)
          obtain ⟨m, hm⟩ : ∃ m, plN L (x.l, x.s, x.r) n = m := ⟨_, rfl⟩
          rw [hm] at hlk hmle
          obtain ⟨u, hu, hmin⟩ : ∃ u : Nat, u = min m n ∧ ((m ≤ n ∧ u = m) ∨ (n < m ∧ u = n)) := ⟨_, rfl, by omega⟩
          obtain ⟨w6, hrun, hP6, hg6⟩ := HIb.out.m.put (by omega) hks u (by omega)
          have HI' := Lib.hid (show FiS w (some ⟨g, o, none⟩) L.length cap (A.length + (n + 1)) A (fun k => plN L k (n + 1)) w6 from
            HIb.out.put hg6 (hP6.congr (fun k => by
              rw [hasD_snoc]
              by_cases he : (x.l, x.s, x.r) = k
              · subst he; rw [hd]; rfl
              · rw [decide_eq_false he, Bool.or_false]) (fun k _ => by
              rw [HPS.out k]
              by_cases he : k = (x.l, x.s, x.r)
              · subst he
                rw [if_pos rfl]
                first | (rw [if_pos (show keyR x = (x.l, x.s, x.r) from rfl), hm, hu]) | (rw [hm, hu])
              · rw [if_neg he, if_neg (fun e => he e.symm)])))
          have HK' := Lib.hid ((hg6.block D1 (lt_blockT HKb.out) (fun e => by have := Option.some.inj e; omega)).trans HKb.out)
          clear hd hx hcc hks hlt hm hu hP6 hg6
          rcases hmin with ⟨h1, rfl⟩ | ⟨h1, rfl⟩
          · have i1 : (u : Int) ≤ (n : Int) := by omega
            have i2 : min (u : Int) (n : Int) = (u : Int) := by omega
            gi_wp2_with fail
            go_roundw
            case rel => exact ⟨n + 1, by omega, by go_num, HI', HK'⟩
            case measure => simp [intOf]; omega
          · have i1 : (u : Int) < (m : Int) := by omega
            have i2 : min (m : Int) (u : Int) = (u : Int) := by omega
            gi_wp2_with fail
            go_roundw
            case rel => exact ⟨u + 1, by omega, by go_num, HI', HK'⟩
            case measure => simp [intOf]; omega
      · obtain rfl : n = L.length := by omega
        have hni : ¬ (L.length : Int) < (L.length : Int) := by omega
        clear hlt hn
        have HIE := HI
        have HK1E := HK1
        have hltr : w.heap.size + 5 ≤ wr.heap.size := by have := lt_blockT HI.out.x; omega
        have hsq2 : SeqQ Try.prog gf lb encK (fun k => k < w.heap.size) (fun _ => false) (fun ys => ys = A) (fun pre => pre <+: A) wr := HSQ.out.later HI.out.b
        clear d2
        have d2 := cell_of_one HI.out.a
        gi_wp2_with fail
        refine rangeA (gf := gf) (lb := lb) rfl eg hsq2 (fun _ h => by cases h) (fun k hk => by have hk : k < w.heap.size := hk; omega) (fun _ => rfl)
          (fun pre W => FiS w ao L.length cap (A.length + L.length) A (fun k => plN L k L.length) W ∧ (∀ k ∈ pre, hitR L k = none) ∧ W.heap[D1]? = some (.deferred (some [])))
          (fun c pre W => c = .ret ∧ Below w.heap.size w W ∧ (∃ y, firstT L A = some y ∧ W.heap[w.heap.size + 1]? = some (.cells #[.string y.l, .string y.s, .string y.r, .string y.tl, .string y.ts, .string y.tr] 61 (0, 0)) ∧ W.heap[w.heap.size + 2]? = some (.cells #[.bool true] 4 (0, 0))) ∧ W.heap[D1]? = some (.deferred (some [])))
          (fun s A' B row hs hg hr => ⟨hs.1.keep hg (fun r e => Nat.le_trans hltr (hr r e).1), hs.2.1, (hg.block D1 (lt_blockT hs.2.2) (fun e => by have := (hr D1 e.symm).1; have := lt_blockT HK1E.out; omega)).trans hs.2.2⟩)
          (fun c s A' B row hs hg hr => by
            obtain ⟨h1, h2, ⟨y, h3, h4, h5⟩, h6⟩ := hs
            have hne : ∀ j, j < wr.heap.size → some j ≠ row := fun j hj e => by have := (hr j e.symm).1; omega
            refine ⟨h1, h2.grown hg (by have := lt_blockT h4; omega) (fun r e => by have := (hr r e).1; omega), ⟨y, h3, (hg.block _ (lt_blockT h4) (hne _ (by omega))).trans h4, (hg.block _ (lt_blockT h5) (hne _ (by omega))).trans h5⟩, (hg.block D1 (lt_blockT h6) (hne _ (lt_blockT HK1E.out))).trans h6⟩)
          ⟨HIE.out, fun k hk => by simp at hk, HK1E.out⟩
          (fun x N => { tmps := #[.slice ao L.length cap, .func (.func gf) #[] lb, .pointer (some ⟨w.heap.size, 0, none⟩), undef, .pointer (some ⟨w.heap.size + 1, 0, none⟩), .pointer (some ⟨w.heap.size + 2, 0, none⟩), .pointer (some ⟨w.heap.size + 4, 0, none⟩), undef, u8, u9, u10, u11, u12, .pointer (some ⟨N, 0, none⟩), undef, .map (some (w.heap.size + 3)), .func (.func gf) #[] lb, undef, undef, undef, undef, undef, .slice ao L.length cap, .int .i64 (L.length : Int), .int .i64 (L.length : Int), .bool false, u26, u27, u28, u29, u30, u31, u32, u33, u34, u35, u36, u37, u38, u39, u40, u41, u42, u43, u44, u45, u46, u47, u48, .func (.func gf) #[] lb, .agg #[.string x.1, .string x.2.1, .string x.2.2], undef, undef, undef, undef, undef, undef, undef, undef, undef, undef, undef, undef], defers := [] }) (fun x => .cells #[.string x.1, .string x.2.1, .string x.2.2] 62)
          ?assign ?body ?done ?stop
        case assign =>
          intro l' x W3 K hK
          unfold encK
          gi_wp2_with fail
          exact hK
        case body =>
          rintro l' pre ⟨p, q, r⟩ W4 N ⟨hI, hno, hD4⟩ hpre hN hNlt hob
          obtain ⟨y0, y1, y2⟩ := cells3T hob
          dsimp only at y0 y1 y2
          have hmem : (p, q, r) ∈ A := hpre.subset (by simp)
          have hks := HA.out _ hmem
          have hlk := hI.m.look hks
          rw [(hasD_iff _ _).2 hmem, if_pos rfl] at hlk
          have d2 := cell_of_one hI.a
          have d6 := cell_of_one hI.x
          have HI := Lib.hid hI
          have HNO := Lib.hid hno
          have HD4 := Lib.hid hD4
          have HPRE := Lib.hid hpre
          rcases plN_end L (p, q, r) with ⟨h1, h2⟩ | ⟨h1, x, h2, h3⟩
          · rw [h1] at hlk
            have HH := Lib.hid h2
            clear hI hno hD4 hpre hob hmem hks h1 h2
            gi_wp2_with fail
            refine ⟨KeepQ.refl _ _ _ _, HI.out, fun k hk => ?_, HD4.out⟩
            rcases List.mem_append.1 hk with h | h
            · exact HNO.out k h
            · rw [List.mem_singleton] at h; rw [h]; exact HH.out
          · obtain ⟨m, hm⟩ : ∃ m, plN L (p, q, r) L.length = m := ⟨_, rfl⟩
            rw [hm] at hlk h1 h2
            have m0 : (0 : Int) ≤ (m : Int) := by omega
            have m1 : (m : Int) < (L.length : Int) := by omega
            have m4 : (m : Int) ≤ 4000 := by omega
            have HH := Lib.hid h3
            obtain ⟨g, o, rfl, hcc⟩ := HO.out m x h2
            obtain ⟨c0, c1, c2, c3, c4, c5⟩ := hcc W4 hI.b
            have hr2 := setRow_grownT W4 (w.heap.size + 1) #[.string x.l, .string x.s, .string x.r, .string x.tl, .string x.ts, .string x.tr]
            have ho2 := (hr2.block (w.heap.size + 2) (lt_blockT hI.o) (fun e => by have := Option.some.inj e; omega)).trans hI.o
            have f2 := cell_of_one ho2
            have g2 := free_of_one ho2
            have HS2 := Lib.hid (one_setT (v := .bool true) ho2)
            have HR2 := Lib.hid hr2
            have HQ := Lib.hid (setRow_heap W4 (w.heap.size + 1) _ #[.string x.l, .string x.s, .string x.r, .string x.tl, .string x.ts, .string x.tr] _ _ hI.r)
            clear hI hno hD4 hpre hob hmem hks h1 h2 h3 hcc hm hr2 ho2
            gi_wp2_with (refine wpListIn_store_rowT rfl _ _ _ rfl _ _ rfl rfl _ _ HI.out.r sizeLrT rfl (by simp [Value.oneCell']) ?_)
            refine ⟨(KeepQ.grown HR2.out (fun r e => by cases e; exact ⟨by show ¬ (w.heap.size + 1 < w.heap.size); omega, .inl (by omega)⟩)).trans (KeepQ.grown HS2.out.2 (fun r e => by cases e; exact ⟨by show ¬ (w.heap.size + 2 < w.heap.size); omega, .inl (by omega)⟩)), rfl, ?_, ⟨x, ?_, ?_, ?_⟩, ?_⟩
            · exact (HI.out.b.grown HR2.out (Nat.le_of_lt (lt_blockT HI.out.a)) (fun r e => by cases e; omega)).grown HS2.out.2 (by have := HR2.out.size; have := lt_blockT HI.out.a; omega) (fun r e => by cases e; omega)
            · exact firstT_some HPRE.out HNO.out HH.out
            · exact (HS2.out.2.block _ (lt_blockT HQ.out) (fun e => by have := Option.some.inj e; omega)).trans HQ.out
            · exact HS2.out.1
            · exact (HS2.out.2.block D1 (by have := lt_blockT HD4.out; have := HR2.out.size; omega) (fun e => by have := Option.some.inj e; omega)).trans ((HR2.out.block D1 (lt_blockT HD4.out) (fun e => by have := Option.some.inj e; omega)).trans HD4.out)
        case done =>
          rintro D2 ys W4 hD2 hys ⟨hI, hno, hD4⟩ hK2
          rw [hys] at hno
          have HNO := Lib.hid (firstT_none hno)
          have HI := Lib.hid hI
          have HD4 := Lib.hid hD4
          have HK2 := Lib.hid hK2
          clear hI hno hD4 hK2 hsq2 hys
          have hDn2 : w.heap.size + 5 ≤ D2 := Nat.le_trans hltr hD2
          have hD12 : D1 ≠ D2 := by have := lt_blockT HK1E.out; omega
          have hr2 := setRow_grownT W4 (w.heap.size + 1) #[.string ⟨#[]⟩, .string ⟨#[]⟩, .string ⟨#[]⟩, .string ⟨#[]⟩, .string ⟨#[]⟩, .string ⟨#[]⟩]
          have ho2 := (hr2.block (w.heap.size + 2) (lt_blockT HI.out.o) (fun e => by have := Option.some.inj e; omega)).trans HI.out.o
          have f2 := cell_of_one ho2
          have g2 := free_of_one ho2
          have HS2 := Lib.hid (one_setT (v := .bool false) ho2)
          have HR2 := Lib.hid hr2
          have HQ := Lib.hid (setRow_heap W4 (w.heap.size + 1) _ #[.string ⟨#[]⟩, .string ⟨#[]⟩, .string ⟨#[]⟩, .string ⟨#[]⟩, .string ⟨#[]⟩, .string ⟨#[]⟩] _ _ HI.out.r)
          clear hr2 ho2
          gi_wp2_with (refine wpListIn_store_rowT rfl _ _ _ rfl _ _ rfl rfl _ _ HI.out.r sizeLrT rfl (by simp [Value.oneCell']) ?_)
          obtain ⟨W6, hW6⟩ : ∃ W6, (W4.setRow (w.heap.size + 1) #[.string ⟨#[]⟩, .string ⟨#[]⟩, .string ⟨#[]⟩, .string ⟨#[]⟩, .string ⟨#[]⟩, .string ⟨#[]⟩]).setCell ⟨w.heap.size + 2, 0, none⟩ (.bool false) = W6 := ⟨_, rfl⟩
          rw [hW6] at HS2 ⊢
          have k2 : W6.heap[D2]? = some (.deferred (some [])) := (HS2.out.2.block D2 (by have := lt_blockT HK2.out; have := HR2.out.size; omega) (fun e => by have := Option.some.inj e; omega)).trans ((HR2.out.block D2 (lt_blockT HK2.out) (fun e => by have := Option.some.inj e; omega)).trans HK2.out)
          have k1 : W6.heap[D1]? = some (.deferred (some [])) := (HS2.out.2.block D1 (by have := lt_blockT HD4.out; have := HR2.out.size; omega) (fun e => by have := Option.some.inj e; omega)).trans ((HR2.out.block D1 (lt_blockT HD4.out) (fun e => by have := Option.some.inj e; omega)).trans HD4.out)
          have r6 := (HS2.out.2.block _ (lt_blockT HQ.out) (fun e => by have := Option.some.inj e; omega)).trans HQ.out
          have o6 := HS2.out.1
          have b6 : Below w.heap.size w W6 := (HI.out.b.grown HR2.out (Nat.le_of_lt (lt_blockT HI.out.a)) (fun r e => by cases e; omega)).grown HS2.out.2 (by have := HR2.out.size; have := lt_blockT HI.out.a; omega) (fun r e => by cases e; omega)
          have hY : firstY L A = lr0 ∧ firstB L A = false := by unfold firstY firstB; rw [HNO.out]; exact ⟨rfl, rfl⟩
          refine ⟨by simp, .inl ⟨_, _, rfl, run_takeDeferred k2, ?_⟩⟩
          refine ⟨by simp, .inl ⟨_, _, rfl, run_takeDeferred ((World.putObj_heap_other hD12).trans k1), ?_⟩⟩
          refine ⟨_, results_two_cells rfl _ _ (w.heap.size + 1) (w.heap.size + 2) _ _ _ _ _ _ rfl rfl ((World.putObj_heap_other (by omega)).trans ((World.putObj_heap_other (by omega)).trans r6)) ((World.putObj_heap_other (by omega)).trans ((World.putObj_heap_other (by omega)).trans o6)) Try.underlying61 rfl sizeLrT Try.underlying4, ?_⟩
          rw [hY.1, hY.2]
          exact ⟨rfl, (b6.grown put_grownT (by have := lt_blockT r6; omega) (fun r e => by cases e; omega)).grown put_grownT (by have := lt_blockT r6; rw [put_sizeT]; omega) (fun r e => by cases e; omega)⟩
        case stop =>
          rintro D2 c pre W4 hD2 hpre ⟨rfl, hB, ⟨y, hy, hr, ho⟩, hD4⟩ hK2
          have hDn2 : w.heap.size + 5 ≤ D2 := Nat.le_trans hltr hD2
          have hD12 : D1 ≠ D2 := by have := lt_blockT HK1E.out; omega
          have hY : firstY L A = y ∧ firstB L A = true := by unfold firstY firstB; rw [hy]; exact ⟨rfl, rfl⟩
          have HY := Lib.hid hY
          have HRO := Lib.hid (And.intro hr ho)
          have HB := Lib.hid hB
          have HD4 := Lib.hid hD4
          have HK2 := Lib.hid hK2
          clear hY hr ho hB hD4 hK2 hy hsq2 hpre
          gi_wp2_with fail
          refine ⟨by simp, .inl ⟨_, _, rfl, run_takeDeferred HK2.out, ?_⟩⟩
          refine ⟨by simp, .inl ⟨_, _, rfl, run_takeDeferred ((World.putObj_heap_other hD12).trans HD4.out), ?_⟩⟩
          refine ⟨_, results_two_cells rfl _ _ (w.heap.size + 1) (w.heap.size + 2) _ _ _ _ _ _ rfl rfl ((World.putObj_heap_other (by omega)).trans ((World.putObj_heap_other (by omega)).trans HRO.out.1)) ((World.putObj_heap_other (by omega)).trans ((World.putObj_heap_other (by omega)).trans HRO.out.2)) Try.underlying61 rfl sizeLrT Try.underlying4, ?_⟩
          rw [HY.out.1, HY.out.2]
          exact ⟨rfl, (HB.out.grown put_grownT (by have := lt_blockT HRO.out.1; omega) (fun r e => by cases e; omega)).grown put_grownT (by have := lt_blockT HRO.out.1; rw [put_sizeT]; omega) (fun r e => by cases e; omega)⟩
end Go.Proofs.Ythjfcfhibdpbnaa
