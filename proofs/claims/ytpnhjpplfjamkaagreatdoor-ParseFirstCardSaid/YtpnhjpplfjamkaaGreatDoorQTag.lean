/-
  The document's Parse (isoglossref07): the tag that it fills, in memory, beside its reader.
-/
import Derived.Test.YtpnhjpplfjamkaaGreatDoorQSubs
import Derived.Deep.Onto
import Derived.Laws.Rows
namespace Go.Proofs.YtpnhjpplfjamkaaGreatDoor
open Go Go.RowKit

def tgCs (t : TagM) (ve vv vx vp : Value) : Array Value := #[.string t.lang, ve, .string t.script, .string t.region, vv, vx, vp, .string ⟨#[]⟩]
def tgRows (t : TagM) (ve vv vp : Value) (us : List Value) : List (Value × List ByteArray) := [(ve, t.extl), (vv, t.vars), (vp, t.priv)] ++ us.zip (t.exts.map (·.2))
structure TgI (w : World) (N T : Nat) (t : TagM) (ve vv vx vp : Value) (us : List Value) : Prop where
  hb : w.heap[T]? = some (.cells (tgCs t ve vv vx vp) 31 (0, 0))
  nh : N ≤ w.heap.size
  r : OwnAll w N (tgRows t ve vv vp us)
  x : w.ownsRow N 51 2 vx t.exts.length (extCells t.exts us)
  ul : us.length = t.exts.length
theorem own_not_blk {w : World} {base B : Nat} {e t : TypeId} {sz : Nat} {v : Value} {n : Nat} {xs : List Value} {cs : Array Value} (h : w.ownsRow base e sz v n xs) (he : e ≠ t) (hB : w.heap[B]? = some (.cells cs t (0, 0))) : v.ownBlock ≠ some B := by
  rcases h.2 with ⟨rfl, _⟩ | ⟨g, c, cur, rfl, _, hg, _⟩
  · simp [Value.ownBlock]
  · intro e
    have e : g = B := by simpa [Value.ownBlock] using e
    subst e
    rw [hB] at hg
    simp at hg
    exact he hg.2.symm
section
variable {w w' w7 w8 : World} {N T : Nat} {t t' : TagM} {ve vv vx vp : Value} {us : List Value}
theorem TgI.kept (h : TgI w N T t ve vv vx vp us) {row : Option Nat} (hg : w.grownBy w' row) (hT : row ≠ some T) (hr : ∀ k, row = some k → k < N) : TgI w' N T t ve vv vx vp us :=
  ⟨(hg.block T (lt_of_heap h.hb) (fun e => hT e.symm)).trans h.hb, Nat.le_trans h.nh hg.size, h.r.kept hg (fun x hx g e1 e2 => by have := ((h.r.1 x hx).lt g e1).1; have := hr g e2; omega), h.x.kept hg (by
    cases hv : vx.ownBlock with
    | none => exact .inl rfl
    | some g => exact .inr (fun e => by have := (h.x.lt g hv).1; have := hr g e.symm; omega)), h.ul⟩
theorem TgI.below (h : TgI w N T t ve vv vx vp us) (hb : Below w.heap.size w w') : TgI w' N T t ve vv vx vp us := h.kept (grown_ofB (row := none) hb) (by simp) (by simp)
theorem TgI.put (h : TgI w N T t ve vv vx vp us) (hg : w.grownBy w' (some T)) (hb : w'.heap[T]? = some (.cells (tgCs t' ve vv vx vp) 31 (0, 0)))
    (h1 : t'.extl = t.extl) (h2 : t'.vars = t.vars) (h3 : t'.priv = t.priv) (h4 : t'.exts = t.exts) : TgI w' N T t' ve vv vx vp us := by
  refine ⟨hb, Nat.le_trans h.nh hg.size, ?_, ?_, by rw [h4]; exact h.ul⟩
  · unfold tgRows
    rw [h1, h2, h3, h4]
    exact h.r.kept hg fun x hx g e1 e2 => own_not_blk (h.r.1 x hx) (by decide) h.hb (e1.trans e2.symm)
  · rw [h4]
    exact h.x.kept hg (.inr (own_not_blk h.x (by decide) h.hb))
theorem TgI.oe (h : TgI w N T t ve vv vx vp us) : w.ownsRow N 9 1 ve t.extl.length (strs t.extl) := h.r.1 (ve, t.extl) (by simp [tgRows])
theorem TgI.ov (h : TgI w N T t ve vv vx vp us) : w.ownsRow N 9 1 vv t.vars.length (strs t.vars) := h.r.1 (vv, t.vars) (by simp [tgRows])
theorem TgI.op (h : TgI w N T t ve vv vx vp us) : w.ownsRow N 9 1 vp t.priv.length (strs t.priv) := h.r.1 (vp, t.priv) (by simp [tgRows])
theorem own_snocQ {l : List ByteArray} {p : ByteArray} {v : Value} (h : w.ownsRow N 9 1 v (l.length + 1) (strs l ++ [.string p])) : w.ownsRow N 9 1 v (l ++ [p]).length (strs (l ++ [p])) := by
  have e : strs (l ++ [p]) = strs l ++ [.string p] := by simp [strs]
  rw [e, List.length_append]
  exact h
/-- A row of texts has grown; the tag's own cell is turned behind that. -/
theorem TgI.grew (h : TgI w N T t ve vv vx vp us) {row : Option Nat} (hg : w.grownBy w7 row) (hr : ∀ g, row = some g → ∃ x ∈ tgRows t ve vv vp us, x.1.ownBlock = some g) {ve' vv' : Value} (h7 : OwnAll w7 N (tgRows t' ve' vv' vp us)) (hx : t'.exts = t.exts)
    (hg8 : w7.grownBy w8 (some T)) (hb : w8.heap[T]? = some (.cells (tgCs t' ve' vv' vx vp) 31 (0, 0))) : TgI w8 N T t' ve' vv' vx vp us := by
  have hTr : some T ≠ row := fun e => by
    obtain ⟨x, hx, hx2⟩ := hr T e.symm
    exact own_not_blk (h.r.1 x hx) (by decide) h.hb hx2
  have hT7 := (hg.block T (lt_of_heap h.hb) hTr).trans h.hb
  have x7 : w7.ownsRow N 51 2 vx t.exts.length (extCells t.exts us) := h.x.kept hg (by
    cases hv : vx.ownBlock with
    | none => exact .inl rfl
    | some g => exact .inr (fun e => by
        obtain ⟨x, hx, hx2⟩ := hr g e.symm
        rcases own_types_ne (h.r.1 x hx) h.x (by decide) with h1 | h1
        · rw [hx2] at h1; cases h1
        · exact h1 (hx2.trans hv.symm)))
  refine ⟨hb, Nat.le_trans (Nat.le_trans h.nh hg.size) hg8.size, h7.kept hg8 fun x hx g e1 e2 => own_not_blk (h7.1 x hx) (by decide) hT7 (e1.trans e2.symm), ?_, by rw [hx]; exact h.ul⟩
  rw [hx]
  exact x7.kept hg8 (.inr (own_not_blk x7 (by decide) hT7))
theorem TgI.extl (h : TgI w N T t ve vv vx vp us) {ve' : Value} {p : ByteArray} (ho : w7.ownsRow N 9 1 ve' (t.extl.length + 1) (strs t.extl ++ [.string p])) (hg : w.grownBy w7 ve.ownBlock) (hl : ∀ g, ve'.ownBlock = some g → ve.ownBlock = some g ∨ w.heap.size ≤ g)
    (hg8 : w7.grownBy w8 (some T)) (hb : w8.heap[T]? = some (.cells (tgCs { t with extl := t.extl ++ [p] } ve' vv vx vp) 31 (0, 0))) : TgI w8 N T { t with extl := t.extl ++ [p] } ve' vv vx vp us :=
  h.grew hg (fun g hg => ⟨(ve, t.extl), by simp [tgRows], hg⟩) (OwnAll.append (A := []) (C := [(vv, t.vars), (vp, t.priv)] ++ us.zip (t.exts.map (·.2))) h.r (own_snocQ ho) hg hl) rfl hg8 hb
theorem TgI.vars (h : TgI w N T t ve vv vx vp us) {vv' : Value} {p : ByteArray} (ho : w7.ownsRow N 9 1 vv' (t.vars.length + 1) (strs t.vars ++ [.string p])) (hg : w.grownBy w7 vv.ownBlock) (hl : ∀ g, vv'.ownBlock = some g → vv.ownBlock = some g ∨ w.heap.size ≤ g)
    (hg8 : w7.grownBy w8 (some T)) (hb : w8.heap[T]? = some (.cells (tgCs { t with vars := t.vars ++ [p] } ve vv' vx vp) 31 (0, 0))) : TgI w8 N T { t with vars := t.vars ++ [p] } ve vv' vx vp us :=
  h.grew hg (fun g hg => ⟨(vv, t.vars), by simp [tgRows], hg⟩) (OwnAll.append (A := [(ve, t.extl)]) (C := [(vp, t.priv)] ++ us.zip (t.exts.map (·.2))) h.r (own_snocQ ho) hg hl) rfl hg8 hb
theorem OwnAll.snoc {L : List (Value × List ByteArray)} {u : Value} {l : List ByteArray} (h : OwnAll w N L) (ho : w.ownsRow N 9 1 u l.length (strs l)) (hf : ∀ x ∈ L, Far x.1 u) : OwnAll w N (L ++ [(u, l)]) := by
  refine ⟨fun x hx => ?_, ?_⟩
  · rcases List.mem_append.1 hx with hx | hx
    · exact h.1 x hx
    · obtain rfl : x = (u, l) := by simpa using hx
      exact ho
  · rw [List.pairwise_append]
    refine ⟨h.2, List.pairwise_singleton _ _, fun a ha b hb => ?_⟩
    obtain rfl : b = (u, l) := by simpa using hb
    exact hf a ha
/-- One extension more, with a row of its own. -/
theorem TgI.exts (h : TgI w N T t ve vv vx vp us) {vx' u : Value} {key : ByteArray} {l : List ByteArray} (hu : w.ownsRow N 9 1 u l.length (strs l)) (hf : ∀ x ∈ tgRows t ve vv vp us, Far x.1 u)
    (ho : w7.ownsRow N 51 2 vx' (t.exts.length + 1) (extCells t.exts us ++ [.string key, u])) (hg : w.grownBy w7 vx.ownBlock) (hg8 : w7.grownBy w8 (some T))
    (hb : w8.heap[T]? = some (.cells (tgCs { t with exts := t.exts ++ [(key, l)] } ve vv vx' vp) 31 (0, 0))) : TgI w8 N T { t with exts := t.exts ++ [(key, l)] } ve vv vx' vp (us ++ [u]) := by
  have hTx : some T ≠ vx.ownBlock := fun e => own_not_blk h.x (by decide) h.hb e.symm
  have hT7 := (hg.block T (lt_of_heap h.hb) hTx).trans h.hb
  have s1 : OwnAll w N (tgRows t ve vv vp us ++ [(u, l)]) := h.r.snoc hu hf
  have r7 : OwnAll w7 N (tgRows t ve vv vp us ++ [(u, l)]) := s1.kept hg fun x hx g e1 e2 => by
    rcases own_types_ne (s1.1 x hx) h.x (by decide) with h1 | h1
    · rw [e1] at h1; cases h1
    · exact h1 (e1.trans e2.symm)
  have r8 := r7.kept hg8 fun x hx g e1 e2 => own_not_blk (r7.1 x hx) (by decide) hT7 (e1.trans e2.symm)
  have x8 := ho.kept hg8 (.inr (own_not_blk ho (by decide) hT7))
  refine ⟨hb, Nat.le_trans (Nat.le_trans h.nh hg.size) hg8.size, ?_, ?_, by simp [h.ul]⟩
  · have e : tgRows { t with exts := t.exts ++ [(key, l)] } ve vv vp (us ++ [u]) = tgRows t ve vv vp us ++ [(u, l)] := by
      unfold tgRows
      dsimp only
      rw [List.map_append, List.zip_append (by rw [List.length_map]; exact h.ul), List.append_assoc]
      rfl
    rw [e]
    exact r8
  · show w8.ownsRow N 51 2 vx' (t.exts ++ [(key, l)]).length (extCells (t.exts ++ [(key, l)]) (us ++ [u]))
    rw [extCells_snoc h.ul, List.length_append]
    exact x8
/-- The private subtags, a row of its own. -/
theorem TgI.priv (h : TgI w N T t ve vv vx vp us) {u : Value} {l : List ByteArray} (hu : w.ownsRow N 9 1 u l.length (strs l)) (hf : ∀ x ∈ tgRows t ve vv vp us, Far x.1 u) (_hp : t.priv = [])
    (hg8 : w.grownBy w8 (some T)) (hb : w8.heap[T]? = some (.cells (tgCs { t with priv := l } ve vv vx u) 31 (0, 0))) : TgI w8 N T { t with priv := l } ve vv vx u us := by
  have hs := h.r.snoc hu hf
  have s8 := hs.kept hg8 fun x hx g e1 e2 => own_not_blk (hs.1 x hx) (by decide) h.hb (e1.trans e2.symm)
  refine ⟨hb, Nat.le_trans h.nh hg8.size, ⟨fun x hx => s8.1 x ?_, ?_⟩, h.x.kept hg8 (.inr (own_not_blk h.x (by decide) h.hb)), h.ul⟩
  · simp only [tgRows, List.cons_append, List.nil_append, List.mem_cons, List.mem_append, List.not_mem_nil, or_false] at hx ⊢
    rcases hx with h1 | h1 | h1 | h1
    · exact .inl h1
    · exact .inr (.inl h1)
    · exact .inr (.inr (.inr (.inr h1)))
    · exact .inr (.inr (.inr (.inl h1)))
  · have h2 := s8.2
    simp only [tgRows, List.cons_append, List.nil_append, List.pairwise_cons, List.mem_cons, List.mem_append, List.not_mem_nil, or_false, List.pairwise_append] at h2 ⊢
    obtain ⟨a1, a2, a3, a4, -, a5⟩ := h2
    refine ⟨fun b hb => ?_, fun b hb => ?_, fun b hb => ?_, a4⟩
    · rcases hb with rfl | rfl | hb
      · exact a1 _ (.inl rfl)
      · exact a1 _ (.inr (.inr (.inr rfl)))
      · exact a1 _ (.inr (.inr (.inl hb)))
    · rcases hb with rfl | hb
      · exact a2 _ (.inr (.inr rfl))
      · exact a2 _ (.inr (.inl hb))
    · exact (a5 b hb _ rfl).symm
theorem TgI.tag (h : TgI w N T t ve vv vx vp us) (hgr : t.grand = ByteArray.empty) : TagIs w (.agg #[.string t.lang, ve, .string t.script, .string t.region, vv, vx, vp, .string ⟨#[]⟩]) t := by
  refine ⟨ve, vv, vx, vp, by rw [hgr]; rfl, Row.of_own h.oe, Row.of_own h.ov, ExtO.row ⟨us, h.ul, h.x, fun i u x hu hx => h.r.1 (u, x.2) ?_⟩, Row.of_own h.op⟩
  refine List.mem_append_right _ (List.mem_of_getElem? (i := i) ?_)
  rw [List.getElem?_zip_eq_some]
  exact ⟨hu, by rw [List.getElem?_map, hx]; rfl⟩
/-- What lay there when a row was made is far from it. -/
theorem TgI.far (h : TgI w N T t ve vv vx vp us) {u : Value} {sz n : Nat} {e : TypeId} {xs : List Value} {w9 : World} (hu : w9.ownsRow w.heap.size e sz u n xs) : ∀ x ∈ tgRows t ve vv vp us, Far x.1 u := fun x hx g e1 e2 => by
  have h1 := ((h.r.1 x hx).lt g e1).2
  have h2 := (hu.lt g e2).1
  omega
end

/-! All of it. -/
def ZGOT : Array Value := #[.string ⟨#[]⟩, .slice none 0 0, .string ⟨#[]⟩, .string ⟨#[]⟩, .slice none 0 0, .slice none 0 0, .slice none 0 0, .string ⟨#[]⟩, .int .i64 0, .int .i64 0, .string ⟨#[]⟩]
structure OrdP (w0 : World) (N R B T g : Nat) : Prop where
  r0 : w0.heap.size ≤ R
  rg : R < g
  gb : g < B
  bt : B < T
  tn : T < N
structure PaI (w0 w : World) (N R B T g cap : Nat) (s : ByteArray) (k : Nat) (t : TagM) (ve vv vx vp : Value) (us : List Value) : Prop where
  rd : RefRd w B g cap s k
  tg : TgI w N T t ve vv vx vp us
  rb : w.heap[R]? = some (.cells ZGOT 54 (0, 0))
  fr : Below w0.heap.size w0 w
  le : k ≤ (pieces s).length
theorem below_grown {w0 w w' : World} {B : Nat} (h : Below w0.heap.size w0 w) (hg : w.grownBy w' (some B)) (hB : w0.heap.size ≤ B) : Below w0.heap.size w0 w' := h.grown hg h.size (fun g e => by have := Option.some.inj e; omega)
section
variable {w0 w w' w7 w8 : World} {N R B T g cap : Nat} {s : ByteArray} {k : Nat} {t t' : TagM} {ve vv vx vp : Value} {us : List Value}
theorem PaI.below (h : PaI w0 w N R B T g cap s k t ve vv vx vp us) (hb : Below w.heap.size w w') : PaI w0 w' N R B T g cap s k t ve vv vx vp us :=
  ⟨h.rd.below hb, h.tg.below hb, (hb.block _ (lt_of_heap h.rb)).trans h.rb, h.fr.trans (hb.mono h.fr.size), h.le⟩
theorem PaI.step (h : PaI w0 w N R B T g cap s k t ve vv vx vp us) (o : OrdP w0 N R B T g) {v : Int} (hv : v = ((k + 1 : Nat) : Int)) (hk : k < (pieces s).length) : PaI w0 (w.setCell ⟨B, 1, none⟩ (.int .i64 v)) N R B T g cap s (k + 1) t ve vv vx vp us := by
  have hg := grown_setF (World.grownBy.refl w (some B)) 1 (.int .i64 v)
  have h1 := o.r0; have h2 := o.rg; have h3 := o.gb; have h4 := o.bt; have h5 := o.tn
  exact ⟨h.rd.step (by omega) hv, h.tg.kept hg (fun e => by have := Option.some.inj e; omega) (fun k e => by have := Option.some.inj e; omega), (hg.block R (lt_of_heap h.rb) (fun e => by have := Option.some.inj e; omega)).trans h.rb, below_grown h.fr hg (by omega), hk⟩
/-- What is turned lies in the tag's own cells, or in rows of its own. -/
theorem PaI.turn (h : PaI w0 w N R B T g cap s k t ve vv vx vp us) (o : OrdP w0 N R B T g) {row : Option Nat} (hg : w.grownBy w7 row) (hr : ∀ k, row = some k → N ≤ k) (hg8 : w7.grownBy w8 (some T)) {ve' vv' vx' vp' : Value} {us' : List Value} (ht : TgI w8 N T t' ve' vv' vx' vp' us') : PaI w0 w8 N R B T g cap s k t' ve' vv' vx' vp' us' := by
  have h1 := o.r0; have h2 := o.rg; have h3 := o.gb; have h4 := o.bt; have h5 := o.tn
  have rd7 := h.rd.kept hg (fun e => by have := hr _ e.symm; omega) (fun e => by have := hr _ e.symm; omega)
  have rb7 := (hg.block R (lt_of_heap h.rb) (fun e => by have := hr _ e.symm; omega)).trans h.rb
  exact ⟨rd7.kept hg8 (fun e => by have := Option.some.inj e; omega) (fun e => by have := Option.some.inj e; omega), ht, (hg8.block R (lt_of_heap rb7) (fun e => by have := Option.some.inj e; omega)).trans rb7,
    below_grown (h.fr.grown hg h.fr.size (fun g e => by have := hr _ e; omega)) hg8 (by omega), h.le⟩
theorem PaI.put (h : PaI w0 w N R B T g cap s k t ve vv vx vp us) (o : OrdP w0 N R B T g) (hg : w.grownBy w' (some T)) (hb : w'.heap[T]? = some (.cells (tgCs t' ve vv vx vp) 31 (0, 0)))
    (h1 : t'.extl = t.extl) (h2 : t'.vars = t.vars) (h3 : t'.priv = t.priv) (h4 : t'.exts = t.exts) : PaI w0 w' N R B T g cap s k t' ve vv vx vp us :=
  h.turn o (World.grownBy.refl w none) (by simp) hg (h.tg.put hg hb h1 h2 h3 h4)
/-- Behind subs. -/
theorem PaI.subs {low m : Nat} {u : Value} (h : PaI w0 w N R B T g cap s k t ve vv vx vp us) (o : OrdP w0 N R B T g) (q : SubsQ w w' B g cap s k low m u) : PaI w0 w' N R B T g cap s (k + m) t ve vv vx vp us := by
  have h1 := o.r0; have h2 := o.rg; have h3 := o.gb; have h4 := o.bt; have h5 := o.tn
  exact ⟨q.rd, h.tg.kept q.gr (fun e => by have := Option.some.inj e; omega) (fun k e => by have := Option.some.inj e; omega), (q.gr.block R (lt_of_heap h.rb) (fun e => by have := Option.some.inj e; omega)).trans h.rb, below_grown h.fr q.gr (by omega), q.le⟩
end
theorem tg_cells {w : World} {T : Nat} {a b c d e f g h : Value} {t : TypeId} (hb : w.heap[T]? = some (.cells #[a, b, c, d, e, f, g, h] t (0, 0))) :
    (w.cell? ⟨T, 0, none⟩ = some a ∧ w.cell? ⟨T, 1, none⟩ = some b ∧ w.cell? ⟨T, 2, none⟩ = some c ∧ w.cell? ⟨T, 3, none⟩ = some d ∧ w.cell? ⟨T, 4, none⟩ = some e ∧ w.cell? ⟨T, 5, none⟩ = some f ∧ w.cell? ⟨T, 6, none⟩ = some g ∧ w.cell? ⟨T, 7, none⟩ = some h) :=
  ⟨rd_cell 0 hb rfl, rd_cell 1 hb rfl, rd_cell 2 hb rfl, rd_cell 3 hb rfl, rd_cell 4 hb rfl, rd_cell 5 hb rfl, rd_cell 6 hb rfl, rd_cell 7 hb rfl⟩
end Go.Proofs.YtpnhjpplfjamkaaGreatDoor
