/-
  Images as texts: likely rows, rules and members, which are right, their rows; an image's bytes, or what is wrong with it (plain mathematics). Package image: what may be: texts in small letters, names of sets, places, sides of rules, rules, members. (Printed by wip/gen_zright.py.) Package image: the places of texts, texts packed, and the closures that make rows of things. Package image: things in memory, faults, and what the rows of one kind of things are.
-/
import Derived.Test.YthjfcfhibdpbnaaYMath
import Derived.LoopIn
import Derived.Maps.AppendAt
import Derived.Test.YthjfcfhibdpbnaaYRights
import Derived.Test.YthjfcfhibdpbnaaCPacks
import Derived.Test.YthjfcfhibdpbnaaProg
import Derived.WalkKit
import Derived.OwnWalk
import Derived.Lib.Hide
import Derived.Shelf.Strings.BuilderK
import Derived.Shelf.Abstract
import Derived.BigRegion
import Derived.Deep.RegionHeld3
import Derived.Test.YthjfcfhibdpbnaaWAll
import Derived.OneCell
/-! Images as texts: likely rows, rules and members, which are right, their rows; an image's bytes, or what is wrong with it (plain mathematics). -/
namespace Go.Proofs.Ythjfcfhibdpbnaa
open Go Go.RowKit

structure Lk where
  l : ByteArray
  s : ByteArray
  r : ByteArray
  tl : ByteArray
  ts : ByteArray
  tr : ByteArray
structure Rl where
  lv : Int
  co : Int
  ow : Bool
  d0 : ByteArray
  d1 : ByteArray
  d2 : ByteArray
  s0 : ByteArray
  s1 : ByteArray
  s2 : ByteArray
structure Mb where
  st : ByteArray
  rg : ByteArray
/-- An image. -/
structure Im where
  als : List Al
  lks : List Lk
  rls : List Rl
  mbs : List Mb
  th : Int
  de : Int

/-! What may be. -/
def lkT (x : Lk) : List ByteArray := [x.l, x.s, x.r, x.tl, x.ts, x.tr]
/-! Rows. -/
def rlT (x : Rl) : List ByteArray := [x.d0, x.d1, x.d2, x.s0, x.s1, x.s2]
/-! The four kinds, by their numbers. -/
def cntN (im : Im) : Nat → Nat
  | 0 => im.als.length
  | 1 => im.lks.length
  | 2 => im.rls.length
  | _ => im.mbs.length
/-! What Encode tells. -/
abbrev ErrT := Int × Int × ByteArray
theorem four (k : Nat) (h : k < 4) : k = 0 ∨ k = 1 ∨ k = 2 ∨ k = 3 := by omega
end Go.Proofs.Ythjfcfhibdpbnaa

/-! Package image: what may be: texts in small letters, names of sets, places, sides of rules, rules, members. (Printed by wip/gen_zright.py.) -/
namespace Go.Proofs.Ythjfcfhibdpbnaa
open Go Go.RowKit

/-! The sides of a rule. -/
/-! Rules and members. -/
structure RlS (x : Rl) : Prop where
  lv : (Lit.int .i64 x.lv).wf = true
  co : (Lit.int .i64 x.co).wf = true
  z : ∀ t ∈ rlT x, t.size ≤ 1000
def rlC (x : Rl) : List Value := [.int .i64 x.lv, .int .i64 x.co, .bool x.ow, .string x.d0, .string x.d1, .string x.d2, .string x.s0, .string x.s1, .string x.s2]
theorem cells9Z {W : World} {B : Nat} {a b c d e f g h i : Value} {t : TypeId} (hh : W.heap[B]? = some (.cells #[a, b, c, d, e, f, g, h, i] t (0, 0))) :
    W.cell? ⟨B, 0, none⟩ = some a ∧ W.cell? ⟨B, 1, none⟩ = some b ∧ W.cell? ⟨B, 2, none⟩ = some c ∧ W.cell? ⟨B, 3, none⟩ = some d ∧ W.cell? ⟨B, 4, none⟩ = some e ∧ W.cell? ⟨B, 5, none⟩ = some f ∧ W.cell? ⟨B, 6, none⟩ = some g ∧ W.cell? ⟨B, 7, none⟩ = some h ∧ W.cell? ⟨B, 8, none⟩ = some i := by simp [World.cell?, hh]
structure MbS (x : Mb) : Prop where
  st : x.st.size ≤ 1000
  rg : x.rg.size ≤ 1000
end Go.Proofs.Ythjfcfhibdpbnaa

/-! Package image: the places of texts, texts packed, and the closures that make rows of things. -/
namespace Go.Proofs.Ythjfcfhibdpbnaa
open Go Go.RowKit

theorem lt_cellZ {W : World} {a : Addr} {v : Value} (h : W.cell? a = some v) : a.block < W.heap.size := World.block_lt_of_cell? _ _ h
/-- A row of places within one block. -/
def PtrsZ (W : World) (v : Value) (B : Nat) (os : List Nat) : Prop :=
  ∃ g, v = .slice (some ⟨g, 0, none⟩) os.length os.length ∧ ∀ i o, os[i]? = some o → W.cell? ⟨g, i, none⟩ = some (.pointer (some ⟨B, o, none⟩))
theorem PtrsZ.below {W W' : World} {v : Value} {B : Nat} {os : List Nat} (h : PtrsZ W v B os) (hb : Below W.heap.size W W') : PtrsZ W' v B os := by
  obtain ⟨g, rfl, hc⟩ := h
  exact ⟨g, rfl, fun i o ho => (hb.cell (p := ⟨g, i, none⟩) (lt_cellZ (hc i o ho))).trans (hc i o ho)⟩
/-! A builder's bytes. -/
/-! Numbers of one byte. -/
end Go.Proofs.Ythjfcfhibdpbnaa

/-! Package image: things in memory, faults, and what the rows of one kind of things are. -/
namespace Go.Proofs.Ythjfcfhibdpbnaa
open Go Go.RowKit

/-- Things of so many cells in a row, wherever they lie. -/
def RowC (W : World) (v : Value) (sz : Nat) (L : List (List Value)) : Prop :=
  ∃ ao cap, v = .slice ao L.length cap ∧ ∀ i c, L[i]? = some c → ∃ g o, ao = some ⟨g, o, none⟩ ∧ ∀ k x, c[k]? = some x → W.cell? ⟨g, o + i * sz + k, none⟩ = some x
theorem RowC.below {W W' : World} {v : Value} {sz : Nat} {L : List (List Value)} (h : RowC W v sz L) (hb : Below W.heap.size W W') : RowC W' v sz L := by
  obtain ⟨ao, cap, rfl, hc⟩ := h
  refine ⟨ao, cap, rfl, fun i c hi => ?_⟩
  obtain ⟨g, o, h1, h2⟩ := hc i c hi
  exact ⟨g, o, h1, fun k x hk => (hb.cell (p := ⟨g, o + i * sz + k, none⟩) (lt_cellZ (h2 k x hk))).trans (h2 k x hk)⟩
theorem RowC.nil (W : World) (sz n : Nat) : RowC W (.slice none 0 n) sz [] := ⟨none, n, rfl, fun i c hc => by simp at hc⟩
theorem RowC.slice {W : World} {v : Value} {sz : Nat} {L : List (List Value)} (h : RowC W v sz L) : ∃ ao cap, v = .slice ao L.length cap := by
  obtain ⟨ao, cap, h, -⟩ := h; exact ⟨ao, cap, h⟩
def alC (x : Al) : List Value := [.int .i64 x.k, .string x.a, .string x.b, .string x.l, .string x.s, .string x.r]
def lkC (x : Lk) : List Value := [.string x.l, .string x.s, .string x.r, .string x.tl, .string x.ts, .string x.tr]
def mbC (x : Mb) : List Value := [.string x.st, .string x.rg]

theorem heap_setCellZ {W : World} {g k : Nat} {v : Value} {j : Nat} (h : j ≠ g) : (W.setCell ⟨g, k, none⟩ v).heap[j]? = W.heap[j]? := Below.heap_setCell W ⟨g, k, none⟩ v j h
theorem own_sliceZ {w : World} {base : Nat} {e : TypeId} {sz : Nat} {v : Value} {n : Nat} {xs : List Value} (h : w.ownsRow base e sz v n xs) : ∃ ao m cap, v = .slice ao m cap := by
  rcases h.2 with ⟨rfl, _⟩ | ⟨g, cap, _, rfl, _⟩
  · exact ⟨_, _, _, rfl⟩
  · exact ⟨_, _, _, rfl⟩
end Go.Proofs.Ythjfcfhibdpbnaa
