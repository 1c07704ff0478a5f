/-
  Package image: things in memory, faults, and what the rows of one kind of things are.
-/
import Derived.Test.YtlpjdknmnomdlaaGreatDoorZMath
import Derived.Test.YtlpjdknmnomdlaaGreatDoorZPack
import Derived.Test.YtlpjdknmnomdlaaGreatDoorWMem
import Derived.OneCell
namespace Go.Proofs.YtlpjdknmnomdlaaGreatDoor
open Go Go.RowKit

/-- Things of so many cells in a row, wherever they lie. -/
def RowC (W : World) (v : Value) (sz : Nat) (L : List (List Value)) : Prop :=
  ∃ ao cap, v = .slice ao L.length cap ∧ ∀ i c, L[i]? = some c → ∃ g o, ao = some ⟨g, o, none⟩ ∧ ∀ k x, c[k]? = some x → W.cell? ⟨g, o + i * sz + k, none⟩ = some x
theorem RowC.below {W W' : World} {v : Value} {sz : Nat} {L : List (List Value)} (h : RowC W v sz L) (hb : Below W.heap.size W W') : RowC W' v sz L := by
  obtain ⟨ao, cap, rfl, hc⟩ := h
  refine ⟨ao, cap, rfl, fun i c hi => ?_⟩
  obtain ⟨g, o, h1, h2⟩ := hc i c hi
  exact ⟨g, o, h1, fun k x hk => (hb.cell (p := ⟨g, o + i * sz + k, none⟩) (lt_cellZ (h2 k x hk))).trans (h2 k x hk)⟩
theorem RowC.nil (W : World) (sz n : Nat) : RowC W (.slice none 0 n) sz [] := ⟨none, n, rfl, fun i c hc => by simp at hc⟩
theorem RowC.slice {W : World} {v : Value} {sz : Nat} {L : List (List Value)} (h : RowC W v sz L) : ∃ ao cap, v = .slice ao L.length cap := by
  obtain ⟨ao, cap, h, -⟩ := h; exact ⟨ao, cap, h⟩
def alC (x : Al) : List Value := [.int .i64 x.k, .string x.a, .string x.b, .string x.l, .string x.s, .string x.r]
def lkC (x : Lk) : List Value := [.string x.l, .string x.s, .string x.r, .string x.tl, .string x.ts, .string x.tr]
def mbC (x : Mb) : List Value := [.string x.st, .string x.rg]

theorem heap_setCellZ {W : World} {g k : Nat} {v : Value} {j : Nat} (h : j ≠ g) : (W.setCell ⟨g, k, none⟩ v).heap[j]? = W.heap[j]? := Below.heap_setCell W ⟨g, k, none⟩ v j h
/-- An error of one fault. -/
def FaultZ (W : World) (v : Value) (k p : Int) (s : ByteArray) : Prop := ∃ b, v = .iface 114 (.pointer (some ⟨b, 0, none⟩)) ∧ W.heap[b]? = some (faultObj p s (.iface 50 (.int .i64 k)))
theorem FaultZ.below {W W' : World} {v : Value} {k p : Int} {s : ByteArray} (h : FaultZ W v k p s) (hb : Below W.heap.size W W') : FaultZ W' v k p s := by
  obtain ⟨b, rfl, h⟩ := h
  exact ⟨b, rfl, (hb.block b (lt_of_block h)).trans h⟩
theorem newZ_any (k p : Int) (s : ByteArray) (w : World) (hk : (k == 0) = false) :
    Calls Tryz.prog 62 #[.int .i64 k, .int .i64 p, .string s] w fun e w' => ∃ v, e = .returned v ∧ FaultZ w' v k p s ∧ Below w.heap.size w w' :=
  (new_any k p s w hk).mono fun e w' ⟨h1, h2⟩ => ⟨_, h1, by rw [← h2]; exact ⟨⟨_, rfl, World.alloc_heap_new _ _⟩, (Below.refl _ w).alloc (Nat.le_refl _) _⟩⟩
/-- What an error tells, or that there is none. -/
def EncZ (W : World) (v : Value) : Option ErrT → Prop
  | none => v = .nilIface
  | some (k, p, s) => FaultZ W v k p s
theorem EncZ.below {W W' : World} {v : Value} {o : Option ErrT} (h : EncZ W v o) (hb : Below W.heap.size W W') : EncZ W' v o := by
  cases o with
  | none => exact h
  | some e => exact FaultZ.below h hb

theorem own_sliceZ {w : World} {base : Nat} {e : TypeId} {sz : Nat} {v : Value} {n : Nat} {xs : List Value} (h : w.ownsRow base e sz v n xs) : ∃ ao m cap, v = .slice ao m cap := by
  rcases h.2 with ⟨rfl, _⟩ | ⟨g, cap, _, rfl, _⟩
  · exact ⟨_, _, _, rfl⟩
  · exact ⟨_, _, _, rfl⟩
/-- The rows of one kind, or the first thing that is not right. -/
def PartZ (W : World) (u er : Value) (wh : ByteArray) (rows : List ByteArray) : Option Nat → Prop
  | none => er = .nilIface ∧ W.ownsRow 0 9 1 u rows.length (strsW rows)
  | some i => FaultZ W er 12 (i : Int) wh ∧ ∃ ao m cap, u = .slice ao m cap
theorem PartZ.below {W W' : World} {u er : Value} {wh : ByteArray} {rows : List ByteArray} {o : Option Nat} (h : PartZ W u er wh rows o) (hb : Below W.heap.size W W') : PartZ W' u er wh rows o := by
  cases o with
  | none => exact ⟨h.1, own_belowW h.2 hb⟩
  | some i => exact ⟨h.1.below hb, h.2⟩
theorem PartZ.slice {W : World} {u er : Value} {wh : ByteArray} {rows : List ByteArray} {o : Option Nat} (h : PartZ W u er wh rows o) : ∃ ao m cap, u = .slice ao m cap := by
  cases o with
  | none => exact own_sliceZ h.2
  | some i => exact h.2
/-- What a loop over things has made so far. -/
structure PaI (w wr : World) (wh : ByteArray) (wd ky : Int) (v : Value) (L : List ByteArray) : Prop where
  blk : wr.heap[w.heap.size]? = some (.cells #[.string wh, .int .i64 wd, .int .i64 ky, v, .nilIface] 99 (0, 0))
  res : wr.heap[w.heap.size + 1]? = some (.cells #[.string ⟨#[]⟩, .int .i64 0, .int .i64 0, .slice none 0 0, .nilIface] 99 (0, 0))
  own : wr.ownsRow (w.heap.size + 2) 9 1 v L.length (strsW L)
  bel : Below w.heap.size w wr
theorem PaI.siz {w wr : World} {wh : ByteArray} {wd ky : Int} {v : Value} {L : List ByteArray} (h : PaI w wr wh wd ky v L) : w.heap.size + 2 ≤ wr.heap.size := lt_of_block h.res
theorem PaI.below {w wr wr' : World} {wh : ByteArray} {wd ky : Int} {v : Value} {L : List ByteArray} (h : PaI w wr wh wd ky v L) (hb : Below wr.heap.size wr wr') : PaI w wr' wh wd ky v L :=
  ⟨(hb.block _ (lt_of_block h.blk)).trans h.blk, (hb.block _ (lt_of_block h.res)).trans h.res, own_belowW h.own hb, h.bel.trans (hb.mono h.bel.size)⟩
theorem PaI.start (w : World) (wh : ByteArray) (wd ky : Int) : PaI w ((w.alloc (.cells #[.string wh, .int .i64 wd, .int .i64 ky, .slice none 0 0, .nilIface] 99)).alloc (.cells #[.string ⟨#[]⟩, .int .i64 0, .int .i64 0, .slice none 0 0, .nilIface] 99)) wh wd ky (.slice none 0 0) [] :=
  ⟨(Below.heap_alloc _ _ _ (by simp)).trans (World.alloc_heap_new w _), heap_alloc2_new w _ _, World.ownsRow_nil _ _ _ _, ((Below.refl _ w).alloc (Nat.le_refl _) _).alloc (by simp) _⟩
theorem PaI.grown {w wr w2 : World} {wh : ByteArray} {wd ky : Int} {v : Value} {L : List ByteArray} {o : Obj} (h : PaI w wr wh wd ky v L) (hg : (wr.alloc o).grownBy w2 v.ownBlock) :
    w2.heap[w.heap.size]? = some (.cells #[.string wh, .int .i64 wd, .int .i64 ky, v, .nilIface] 99 (0, 0)) ∧ w2.heap[w.heap.size + 1]? = some (.cells #[.string ⟨#[]⟩, .int .i64 0, .int .i64 0, .slice none 0 0, .nilIface] 99 (0, 0)) ∧ Below w.heap.size w w2 := by
  have hs := h.siz
  have hn : ∀ k, k < w.heap.size + 2 → (some k : Option Nat) ≠ v.ownBlock := fun k hk e => by have := (h.own.lt k e.symm).1; omega
  refine ⟨(hg.block _ (by simp; omega) (hn _ (by omega))).trans ((Below.heap_alloc _ _ _ (by omega)).trans h.blk), (hg.block _ (by simp; omega) (hn _ (by omega))).trans ((Below.heap_alloc _ _ _ (by omega)).trans h.res), ?_⟩
  exact (h.bel.alloc h.bel.size o).grown hg (by simp; omega) (fun r e => by have := (h.own.lt r e).1; omega)
theorem PaI.push {w wr w2 : World} {wh : ByteArray} {wd ky : Int} {v v' : Value} {L : List ByteArray} {o : Obj} {x : ByteArray} (h : PaI w wr wh wd ky v L) (hg : (wr.alloc o).grownBy w2 v.ownBlock)
    (h1 : w2.ownsRow (w.heap.size + 2) 9 1 v' (L.length + 1) (strsW L ++ [.string x])) : PaI w (w2.setCell ⟨w.heap.size, 3, none⟩ v') wh wd ky v' (L ++ [x]) := by
  obtain ⟨g1, g2, g3⟩ := h.grown hg
  refine ⟨setY g1 v', (heap_setCellZ (by omega)).trans g2, ?_, g3.setCell (p := ⟨w.heap.size, 3, none⟩) (Nat.le_refl _) v'⟩
  rw [List.length_append, strsW_append]
  exact ownsRow_setCell_other h1 (fun e => by have := (h1.lt _ e).1; simp at this; omega) v'
theorem sizePart : (Tryz.prog.info? 99).map (·.size) = some 5 := by kernel_rfl
theorem badL_at {α : Type} {p : α → Bool} {l : List α} {k : Nat} {x : α} (h : badL p (l.take k) = none) (hx : l[k]? = some x) (hp : p x = false) : badL p l = some k := by
  unfold badL at *
  rw [List.findIdx?_eq_none_iff] at h
  obtain ⟨hk, rfl⟩ := List.getElem?_eq_some_iff.1 hx
  rw [List.findIdx?_eq_some_iff_getElem]
  refine ⟨hk, by rw [hp]; rfl, fun j hj => ?_⟩
  have := h l[j] (List.mem_take_iff_getElem.2 ⟨j, by omega, rfl⟩)
  simpa using this
theorem badL_next {α : Type} {p : α → Bool} {l : List α} {k : Nat} {x : α} (h : badL p (l.take k) = none) (hx : l[k]? = some x) (hp : p x = true) : badL p (l.take (k + 1)) = none := by
  unfold badL at *
  rw [List.findIdx?_eq_none_iff] at *
  intro y hy
  rw [take_nextW hx, List.mem_append] at hy
  rcases hy with hy | hy
  · exact h y hy
  · rw [List.mem_singleton.1 hy, hp]; rfl
end Go.Proofs.YtlpjdknmnomdlaaGreatDoor
