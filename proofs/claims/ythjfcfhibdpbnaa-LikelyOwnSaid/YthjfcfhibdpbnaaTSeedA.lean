import Derived.Great.BuildSlice
import Derived.Tactics
import Derived.KernelRfl
import Derived.Test.YthjfcfhibdpbnaaProg
import Derived.Test.YthjfcfhibdpbnaaBMaths
import Derived.WalkKit
import Derived.Lib.Hide
import Derived.Outline
import Derived.OwnWalk
import Derived.WalkSmall
import Derived.Carry
import Derived.OneCell
import Derived.Laws.Rows
import Derived.Laws.Tables
import Derived.Deep.CutRange
import Derived.RangeFuncRecord
import Derived.Test.YthjfcfhibdpbnaaTMax
import Derived.Test.YthjfcfhibdpbnaaHExt
namespace Go.Proofs.Ythjfcfhibdpbnaa
open Go

def litActs (P : Program) : List Oper → Act → Option Act
  | [], a => some a
  | o :: r, a =>
    match o.guard, o.op with
    | none, .build t parts => (P.built t (parts.map fun (i, x) => (i, a.eval x)).toList).bind fun cells => litActs P r (a.put o.dst (.agg cells))
    | none, .assign x => litActs P r (a.put o.dst (a.eval x))
    | _, _ => none
theorem wpList_lits {P : Program} {ops : Array Oper} {Q : Exit → Act → World → Prop} {w : World} : ∀ (l : List Oper) {rest : List Oper} {a a' : Act}, litActs P l a = some a' → wpList P ops Q rest a' w → wpList P ops Q (l ++ rest) a w
  | [], _, a, a', h, hK => by
    obtain rfl : a = a' := Option.some.inj h
    exact hK
  | o :: r, rest, a, a', h, hK => by
    unfold litActs at h
    split at h
    · rename_i t parts hg ho
      obtain ⟨cells, hc, h⟩ := Option.bind_eq_some_iff.1 h
      refine wpList_build hg t parts ho (by rw [hc]; rfl) ?_
      rw [hc]
      exact wpList_lits r h hK
    · rename_i x hg ho
      refine wpList_plain hg fun K hK' => ?_
      unfold Oper.wp
      simp only [execOp, ho]
      exact hK' _ _ (wpList_lits r h hK)
    · cases h
theorem wpList_litsN {P : Program} {ops : Array Oper} {Q : Exit → Act → World → Prop} {w : World} {l : List Oper} {a : Act} (n : Nat) (a' : Act) (h : litActs P (l.take n) a = some a') (hK : wpList P ops Q (l.drop n) a' w) : wpList P ops Q l a w := by
  have := wpList_lits (ops := ops) (Q := Q) (w := w) (l.take n) h hK
  rwa [List.take_append_drop] at this
def litRow (P : Program) (e : TypeId) (len : Nat) (vals : List (Nat × Value)) : Option (Array Value) :=
  (P.info? e).bind fun ie => ie.zero.bind fun z => if 0 < len * ie.size ∧ len * ie.size ≤ 2 ^ 24 then Instr.fill (fun i => some (i * ie.size, ie.size)) ((Array.range (len * ie.size)).map (z.cells[· % z.cells.size]!)) vals else none
theorem wpList_litRow {P : Program} {ops : Array Oper} {rest : List Oper} {o : Oper} {a a' : Act} {w : World} {Q : Exit → Act → World → Prop} (t e : TypeId) (len : Nat) (parts : Array (Nat × Operand)) (hg : o.guard = none) (ho : o.op = .buildSlice t len parts) (hu : P.underlying t = some (.slice e))
    (cells : Array Value) (N : Nat) (hN : w.heap.size = N) (hf : litRow P e len (parts.map fun (i, x) => (i, a.eval x)).toList = some cells) (ha : a.put o.dst (.slice (some ⟨N, 0, none⟩) len len) = a')
    (h : wpList P ops Q rest a' (w.alloc (.cells cells e))) : wpList P ops Q (o :: rest) a w := by
  subst hN ha
  obtain ⟨ie, hie, hf⟩ := Option.bind_eq_some_iff.1 hf
  obtain ⟨z, hz, hf⟩ := Option.bind_eq_some_iff.1 hf
  split at hf
  · rename_i hc
    exact wpList_buildSlice hg t e len parts ho cells ie z hu hie hz (by omega) (by omega) hf h
  · cases hf
end Go.Proofs.Ythjfcfhibdpbnaa

namespace Go.Proofs.Ythjfcfhibdpbnaa
open Go Go.RowKit

structure Ax where
  k : Int
  a : ByteArray
  b : ByteArray
  l : ByteArray
  s : ByteArray
  r : ByteArray
structure Lx where
  l : ByteArray
  s : ByteArray
  r : ByteArray
  tl : ByteArray
  ts : ByteArray
  tr : ByteArray
structure Rx where
  lv : Int
  co : Int
  ow : Bool
  d0 : ByteArray
  d1 : ByteArray
  d2 : ByteArray
  s0 : ByteArray
  s1 : ByteArray
  s2 : ByteArray
structure Mx where
  st : ByteArray
  rg : ByteArray
def axC (x : Ax) : List Value := [.int .i64 x.k, .string x.a, .string x.b, .string x.l, .string x.s, .string x.r]
def lxC (x : Lx) : List Value := [.string x.l, .string x.s, .string x.r, .string x.tl, .string x.ts, .string x.tr]
def rxC (x : Rx) : List Value := [.int .i64 x.lv, .int .i64 x.co, .bool x.ow, .string x.d0, .string x.d1, .string x.d2, .string x.s0, .string x.s1, .string x.s2]
def mxC (x : Mx) : List Value := [.string x.st, .string x.rg]
def als15 : List Ax := [⟨1, ⟨#[49, 56]⟩, ⟨#[]⟩, ⟨#[115, 102, 98]⟩, ⟨#[]⟩, ⟨#[]⟩⟩,
  ⟨1, ⟨#[49, 57]⟩, ⟨#[]⟩, ⟨#[118, 103, 116]⟩, ⟨#[]⟩, ⟨#[]⟩⟩,
  ⟨1, ⟨#[50, 48]⟩, ⟨#[]⟩, ⟨#[115, 103, 103]⟩, ⟨#[]⟩, ⟨#[]⟩⟩,
  ⟨1, ⟨#[48, 51]⟩, ⟨#[]⟩, ⟨#[97, 109, 105]⟩, ⟨#[]⟩, ⟨#[]⟩⟩,
  ⟨1, ⟨#[48, 56]⟩, ⟨#[]⟩, ⟨#[116, 108, 104]⟩, ⟨#[]⟩, ⟨#[]⟩⟩,
  ⟨1, ⟨#[48, 57]⟩, ⟨#[]⟩, ⟨#[108, 98]⟩, ⟨#[]⟩, ⟨#[]⟩⟩,
  ⟨1, ⟨#[49, 49]⟩, ⟨#[]⟩, ⟨#[110, 118]⟩, ⟨#[]⟩, ⟨#[]⟩⟩,
  ⟨1, ⟨#[49, 50]⟩, ⟨#[]⟩, ⟨#[112, 119, 110]⟩, ⟨#[]⟩, ⟨#[]⟩⟩,
  ⟨1, ⟨#[49, 51]⟩, ⟨#[]⟩, ⟨#[116, 97, 111]⟩, ⟨#[]⟩, ⟨#[]⟩⟩,
  ⟨1, ⟨#[49, 52]⟩, ⟨#[]⟩, ⟨#[116, 97, 121]⟩, ⟨#[]⟩, ⟨#[]⟩⟩,
  ⟨1, ⟨#[49, 53]⟩, ⟨#[]⟩, ⟨#[116, 115, 117]⟩, ⟨#[]⟩, ⟨#[]⟩⟩,
  ⟨1, ⟨#[49, 54]⟩, ⟨#[]⟩, ⟨#[110, 98]⟩, ⟨#[]⟩, ⟨#[]⟩⟩,
  ⟨1, ⟨#[49, 55]⟩, ⟨#[]⟩, ⟨#[110, 110]⟩, ⟨#[]⟩, ⟨#[]⟩⟩,
  ⟨1, ⟨#[48, 48]⟩, ⟨#[]⟩, ⟨#[106, 98, 111]⟩, ⟨#[]⟩, ⟨#[]⟩⟩,
  ⟨1, ⟨#[50, 50]⟩, ⟨#[]⟩, ⟨#[104, 97, 107]⟩, ⟨#[]⟩, ⟨#[]⟩⟩,
  ⟨1, ⟨#[50, 52]⟩, ⟨#[]⟩, ⟨#[110, 97, 110]⟩, ⟨#[]⟩, ⟨#[]⟩⟩,
  ⟨1, ⟨#[50, 53]⟩, ⟨#[]⟩, ⟨#[104, 115, 110]⟩, ⟨#[]⟩, ⟨#[]⟩⟩,
  ⟨1, ⟨#[48, 55]⟩, ⟨#[]⟩, ⟨#[104, 97, 107]⟩, ⟨#[]⟩, ⟨#[]⟩⟩,
  ⟨1, ⟨#[48, 52]⟩, ⟨#[]⟩, ⟨#[98, 110, 110]⟩, ⟨#[]⟩, ⟨#[]⟩⟩,
  ⟨2, ⟨#[115, 103, 110]⟩, ⟨#[98, 114]⟩, ⟨#[98, 122, 115]⟩, ⟨#[]⟩, ⟨#[]⟩⟩,
  ⟨2, ⟨#[115, 103, 110]⟩, ⟨#[117, 115]⟩, ⟨#[97, 115, 101]⟩, ⟨#[]⟩, ⟨#[]⟩⟩,
  ⟨2, ⟨#[115, 103, 110]⟩, ⟨#[103, 98]⟩, ⟨#[98, 102, 105]⟩, ⟨#[]⟩, ⟨#[]⟩⟩,
  ⟨2, ⟨#[115, 103, 110]⟩, ⟨#[100, 101]⟩, ⟨#[103, 115, 103]⟩, ⟨#[]⟩, ⟨#[]⟩⟩,
  ⟨3, ⟨#[105, 119]⟩, ⟨#[]⟩, ⟨#[104, 101]⟩, ⟨#[]⟩, ⟨#[]⟩⟩,
  ⟨3, ⟨#[105, 110]⟩, ⟨#[]⟩, ⟨#[105, 100]⟩, ⟨#[]⟩, ⟨#[]⟩⟩,
  ⟨3, ⟨#[106, 105]⟩, ⟨#[]⟩, ⟨#[121, 105]⟩, ⟨#[]⟩, ⟨#[]⟩⟩,
  ⟨3, ⟨#[109, 111]⟩, ⟨#[]⟩, ⟨#[114, 111]⟩, ⟨#[]⟩, ⟨#[]⟩⟩,
  ⟨3, ⟨#[110, 111]⟩, ⟨#[]⟩, ⟨#[110, 98]⟩, ⟨#[]⟩, ⟨#[]⟩⟩,
  ⟨3, ⟨#[116, 108]⟩, ⟨#[]⟩, ⟨#[102, 105, 108]⟩, ⟨#[]⟩, ⟨#[]⟩⟩,
  ⟨3, ⟨#[115, 104]⟩, ⟨#[]⟩, ⟨#[115, 114]⟩, ⟨#[108, 97, 116, 110]⟩, ⟨#[]⟩⟩,
  ⟨3, ⟨#[99, 109, 110]⟩, ⟨#[]⟩, ⟨#[122, 104]⟩, ⟨#[]⟩, ⟨#[]⟩⟩,
  ⟨3, ⟨#[99, 110, 114]⟩, ⟨#[]⟩, ⟨#[115, 114]⟩, ⟨#[]⟩, ⟨#[109, 101]⟩⟩,
  ⟨3, ⟨#[101, 110, 103]⟩, ⟨#[]⟩, ⟨#[101, 110]⟩, ⟨#[]⟩, ⟨#[]⟩⟩,
  ⟨3, ⟨#[100, 101, 117]⟩, ⟨#[]⟩, ⟨#[100, 101]⟩, ⟨#[]⟩, ⟨#[]⟩⟩,
  ⟨3, ⟨#[102, 114, 97]⟩, ⟨#[]⟩, ⟨#[102, 114]⟩, ⟨#[]⟩, ⟨#[]⟩⟩,
  ⟨4, ⟨#[113, 97, 97, 105]⟩, ⟨#[]⟩, ⟨#[]⟩, ⟨#[122, 105, 110, 104]⟩, ⟨#[]⟩⟩,
  ⟨5, ⟨#[100, 100]⟩, ⟨#[]⟩, ⟨#[]⟩, ⟨#[]⟩, ⟨#[100, 101]⟩⟩,
  ⟨5, ⟨#[115, 117]⟩, ⟨#[]⟩, ⟨#[]⟩, ⟨#[]⟩, ⟨#[114, 117]⟩⟩,
  ⟨5, ⟨#[98, 117]⟩, ⟨#[]⟩, ⟨#[]⟩, ⟨#[]⟩, ⟨#[109, 109]⟩⟩,
  ⟨5, ⟨#[102, 120]⟩, ⟨#[]⟩, ⟨#[]⟩, ⟨#[]⟩, ⟨#[102, 114]⟩⟩,
  ⟨5, ⟨#[56, 52, 48]⟩, ⟨#[]⟩, ⟨#[]⟩, ⟨#[]⟩, ⟨#[117, 115]⟩⟩,
  ⟨5, ⟨#[50, 55, 54]⟩, ⟨#[]⟩, ⟨#[]⟩, ⟨#[]⟩, ⟨#[100, 101]⟩⟩,
  ⟨5, ⟨#[56, 50, 54]⟩, ⟨#[]⟩, ⟨#[]⟩, ⟨#[]⟩, ⟨#[103, 98]⟩⟩,
  ⟨5, ⟨#[49, 53, 54]⟩, ⟨#[]⟩, ⟨#[]⟩, ⟨#[]⟩, ⟨#[99, 110]⟩⟩,
  ⟨5, ⟨#[116, 112]⟩, ⟨#[]⟩, ⟨#[]⟩, ⟨#[]⟩, ⟨#[116, 108]⟩⟩,
  ⟨5, ⟨#[122, 114]⟩, ⟨#[]⟩, ⟨#[]⟩, ⟨#[]⟩, ⟨#[99, 100]⟩⟩,
  ⟨5, ⟨#[121, 117]⟩, ⟨#[]⟩, ⟨#[]⟩, ⟨#[]⟩, ⟨#[114, 115]⟩⟩,
  ⟨5, ⟨#[99, 115]⟩, ⟨#[]⟩, ⟨#[]⟩, ⟨#[]⟩, ⟨#[114, 115]⟩⟩,
  ⟨6, ⟨#[104, 101, 112, 108, 111, 99]⟩, ⟨#[]⟩, ⟨#[97, 108, 97, 108, 99, 57, 55]⟩, ⟨#[]⟩, ⟨#[]⟩⟩,
  ⟨6, ⟨#[112, 111, 108, 121, 116, 111, 110, 105]⟩, ⟨#[]⟩, ⟨#[112, 111, 108, 121, 116, 111, 110]⟩, ⟨#[]⟩, ⟨#[]⟩⟩,
  ⟨7, ⟨#[99, 97]⟩, ⟨#[105, 115, 108, 97, 109, 105, 99, 99]⟩, ⟨#[99, 105, 118, 105, 108]⟩, ⟨#[]⟩, ⟨#[]⟩⟩,
  ⟨7, ⟨#[109, 115]⟩, ⟨#[105, 109, 112, 101, 114, 105, 97, 108]⟩, ⟨#[117, 107, 115, 121, 115, 116, 101, 109]⟩, ⟨#[]⟩, ⟨#[]⟩⟩,
  ⟨7, ⟨#[99, 111]⟩, ⟨#[100, 105, 99, 116, 105, 111, 110]⟩, ⟨#[100, 105, 99, 116]⟩, ⟨#[]⟩, ⟨#[]⟩⟩,
  ⟨7, ⟨#[107, 98]⟩, ⟨#[121, 101, 115]⟩, ⟨#[116, 114, 117, 101]⟩, ⟨#[]⟩, ⟨#[]⟩⟩]
def lks15 : List Lx := [⟨⟨#[101, 110]⟩, ⟨#[]⟩, ⟨#[]⟩, ⟨#[101, 110]⟩, ⟨#[108, 97, 116, 110]⟩, ⟨#[117, 115]⟩⟩,
  ⟨⟨#[101, 110]⟩, ⟨#[115, 104, 97, 119]⟩, ⟨#[]⟩, ⟨#[101, 110]⟩, ⟨#[115, 104, 97, 119]⟩, ⟨#[103, 98]⟩⟩,
  ⟨⟨#[117, 110, 100]⟩, ⟨#[]⟩, ⟨#[]⟩, ⟨#[101, 110]⟩, ⟨#[108, 97, 116, 110]⟩, ⟨#[117, 115]⟩⟩,
  ⟨⟨#[117, 110, 100]⟩, ⟨#[]⟩, ⟨#[52, 49, 57]⟩, ⟨#[101, 115]⟩, ⟨#[108, 97, 116, 110]⟩, ⟨#[52, 49, 57]⟩⟩,
  ⟨⟨#[100, 101]⟩, ⟨#[]⟩, ⟨#[]⟩, ⟨#[100, 101]⟩, ⟨#[108, 97, 116, 110]⟩, ⟨#[100, 101]⟩⟩,
  ⟨⟨#[102, 114]⟩, ⟨#[]⟩, ⟨#[]⟩, ⟨#[102, 114]⟩, ⟨#[108, 97, 116, 110]⟩, ⟨#[102, 114]⟩⟩,
  ⟨⟨#[101, 115]⟩, ⟨#[]⟩, ⟨#[]⟩, ⟨#[101, 115]⟩, ⟨#[108, 97, 116, 110]⟩, ⟨#[101, 115]⟩⟩,
  ⟨⟨#[122, 104]⟩, ⟨#[]⟩, ⟨#[]⟩, ⟨#[122, 104]⟩, ⟨#[104, 97, 110, 115]⟩, ⟨#[99, 110]⟩⟩,
  ⟨⟨#[122, 104]⟩, ⟨#[]⟩, ⟨#[116, 119]⟩, ⟨#[122, 104]⟩, ⟨#[104, 97, 110, 116]⟩, ⟨#[116, 119]⟩⟩,
  ⟨⟨#[122, 104]⟩, ⟨#[]⟩, ⟨#[104, 107]⟩, ⟨#[122, 104]⟩, ⟨#[104, 97, 110, 116]⟩, ⟨#[104, 107]⟩⟩,
  ⟨⟨#[122, 104]⟩, ⟨#[104, 97, 110, 116]⟩, ⟨#[]⟩, ⟨#[122, 104]⟩, ⟨#[104, 97, 110, 116]⟩, ⟨#[116, 119]⟩⟩,
  ⟨⟨#[117, 110, 100]⟩, ⟨#[104, 97, 110, 116]⟩, ⟨#[]⟩, ⟨#[122, 104]⟩, ⟨#[104, 97, 110, 116]⟩, ⟨#[116, 119]⟩⟩,
  ⟨⟨#[117, 110, 100]⟩, ⟨#[104, 97, 110, 115]⟩, ⟨#[]⟩, ⟨#[122, 104]⟩, ⟨#[104, 97, 110, 115]⟩, ⟨#[99, 110]⟩⟩,
  ⟨⟨#[115, 114]⟩, ⟨#[]⟩, ⟨#[]⟩, ⟨#[115, 114]⟩, ⟨#[99, 121, 114, 108]⟩, ⟨#[114, 115]⟩⟩,
  ⟨⟨#[115, 114]⟩, ⟨#[108, 97, 116, 110]⟩, ⟨#[]⟩, ⟨#[115, 114]⟩, ⟨#[108, 97, 116, 110]⟩, ⟨#[114, 115]⟩⟩,
  ⟨⟨#[115, 114]⟩, ⟨#[]⟩, ⟨#[109, 101]⟩, ⟨#[115, 114]⟩, ⟨#[108, 97, 116, 110]⟩, ⟨#[109, 101]⟩⟩,
  ⟨⟨#[117, 110, 100]⟩, ⟨#[99, 121, 114, 108]⟩, ⟨#[]⟩, ⟨#[114, 117]⟩, ⟨#[99, 121, 114, 108]⟩, ⟨#[114, 117]⟩⟩,
  ⟨⟨#[114, 117]⟩, ⟨#[]⟩, ⟨#[]⟩, ⟨#[114, 117]⟩, ⟨#[99, 121, 114, 108]⟩, ⟨#[114, 117]⟩⟩,
  ⟨⟨#[104, 101]⟩, ⟨#[]⟩, ⟨#[]⟩, ⟨#[104, 101]⟩, ⟨#[104, 101, 98, 114]⟩, ⟨#[105, 108]⟩⟩,
  ⟨⟨#[117, 110, 100]⟩, ⟨#[104, 101, 98, 114]⟩, ⟨#[]⟩, ⟨#[104, 101]⟩, ⟨#[104, 101, 98, 114]⟩, ⟨#[105, 108]⟩⟩,
  ⟨⟨#[97, 114]⟩, ⟨#[]⟩, ⟨#[]⟩, ⟨#[97, 114]⟩, ⟨#[97, 114, 97, 98]⟩, ⟨#[101, 103]⟩⟩,
  ⟨⟨#[117, 110, 100]⟩, ⟨#[97, 114, 97, 98]⟩, ⟨#[]⟩, ⟨#[97, 114]⟩, ⟨#[97, 114, 97, 98]⟩, ⟨#[101, 103]⟩⟩,
  ⟨⟨#[110, 98]⟩, ⟨#[]⟩, ⟨#[]⟩, ⟨#[110, 98]⟩, ⟨#[108, 97, 116, 110]⟩, ⟨#[110, 111]⟩⟩,
  ⟨⟨#[110, 110]⟩, ⟨#[]⟩, ⟨#[]⟩, ⟨#[110, 110]⟩, ⟨#[108, 97, 116, 110]⟩, ⟨#[110, 111]⟩⟩,
  ⟨⟨#[100, 97]⟩, ⟨#[]⟩, ⟨#[]⟩, ⟨#[100, 97]⟩, ⟨#[108, 97, 116, 110]⟩, ⟨#[100, 107]⟩⟩,
  ⟨⟨#[112, 116]⟩, ⟨#[]⟩, ⟨#[]⟩, ⟨#[112, 116]⟩, ⟨#[108, 97, 116, 110]⟩, ⟨#[98, 114]⟩⟩,
  ⟨⟨#[104, 105]⟩, ⟨#[]⟩, ⟨#[]⟩, ⟨#[104, 105]⟩, ⟨#[100, 101, 118, 97]⟩, ⟨#[105, 110]⟩⟩,
  ⟨⟨#[104, 105]⟩, ⟨#[108, 97, 116, 110]⟩, ⟨#[]⟩, ⟨#[104, 105]⟩, ⟨#[108, 97, 116, 110]⟩, ⟨#[105, 110]⟩⟩,
  ⟨⟨#[106, 97]⟩, ⟨#[]⟩, ⟨#[]⟩, ⟨#[106, 97]⟩, ⟨#[106, 112, 97, 110]⟩, ⟨#[106, 112]⟩⟩,
  ⟨⟨#[105, 100]⟩, ⟨#[]⟩, ⟨#[]⟩, ⟨#[105, 100]⟩, ⟨#[108, 97, 116, 110]⟩, ⟨#[105, 100]⟩⟩,
  ⟨⟨#[102, 105, 108]⟩, ⟨#[]⟩, ⟨#[]⟩, ⟨#[102, 105, 108]⟩, ⟨#[108, 97, 116, 110]⟩, ⟨#[112, 104]⟩⟩,
  ⟨⟨#[114, 111]⟩, ⟨#[]⟩, ⟨#[]⟩, ⟨#[114, 111]⟩, ⟨#[108, 97, 116, 110]⟩, ⟨#[114, 111]⟩⟩]
def rls15 : List Rx := [⟨1, 1, false, ⟨#[110, 98]⟩, ⟨#[]⟩, ⟨#[]⟩, ⟨#[110, 111]⟩, ⟨#[]⟩, ⟨#[]⟩⟩,
  ⟨1, 4, false, ⟨#[110, 98]⟩, ⟨#[]⟩, ⟨#[]⟩, ⟨#[100, 97]⟩, ⟨#[]⟩, ⟨#[]⟩⟩,
  ⟨1, 20, false, ⟨#[110, 110]⟩, ⟨#[]⟩, ⟨#[]⟩, ⟨#[110, 98]⟩, ⟨#[]⟩, ⟨#[]⟩⟩,
  ⟨1, 8, false, ⟨#[110, 110]⟩, ⟨#[]⟩, ⟨#[]⟩, ⟨#[100, 97]⟩, ⟨#[]⟩, ⟨#[]⟩⟩,
  ⟨1, 30, true, ⟨#[105, 100]⟩, ⟨#[]⟩, ⟨#[]⟩, ⟨#[109, 115]⟩, ⟨#[]⟩, ⟨#[]⟩⟩,
  ⟨1, 80, false, ⟨#[42]⟩, ⟨#[]⟩, ⟨#[]⟩, ⟨#[42]⟩, ⟨#[]⟩, ⟨#[]⟩⟩,
  ⟨2, 15, true, ⟨#[122, 104]⟩, ⟨#[104, 97, 110, 115]⟩, ⟨#[]⟩, ⟨#[122, 104]⟩, ⟨#[104, 97, 110, 116]⟩, ⟨#[]⟩⟩,
  ⟨2, 19, true, ⟨#[122, 104]⟩, ⟨#[104, 97, 110, 116]⟩, ⟨#[]⟩, ⟨#[122, 104]⟩, ⟨#[104, 97, 110, 115]⟩, ⟨#[]⟩⟩,
  ⟨2, 20, false, ⟨#[115, 114]⟩, ⟨#[108, 97, 116, 110]⟩, ⟨#[]⟩, ⟨#[115, 114]⟩, ⟨#[99, 121, 114, 108]⟩, ⟨#[]⟩⟩,
  ⟨2, 50, false, ⟨#[42]⟩, ⟨#[42]⟩, ⟨#[]⟩, ⟨#[42]⟩, ⟨#[42]⟩, ⟨#[]⟩⟩,
  ⟨3, 3, false, ⟨#[101, 110]⟩, ⟨#[42]⟩, ⟨#[36, 101, 110, 117, 115]⟩, ⟨#[101, 110]⟩, ⟨#[42]⟩, ⟨#[36, 101, 110, 117, 115]⟩⟩,
  ⟨3, 3, false, ⟨#[101, 110]⟩, ⟨#[42]⟩, ⟨#[33, 101, 110, 117, 115]⟩, ⟨#[101, 110]⟩, ⟨#[42]⟩, ⟨#[33, 101, 110, 117, 115]⟩⟩,
  ⟨3, 4, false, ⟨#[101, 115]⟩, ⟨#[42]⟩, ⟨#[36, 97, 109, 101, 114]⟩, ⟨#[101, 115]⟩, ⟨#[42]⟩, ⟨#[36, 97, 109, 101, 114]⟩⟩,
  ⟨3, 5, false, ⟨#[101, 115]⟩, ⟨#[42]⟩, ⟨#[33, 97, 109, 101, 114]⟩, ⟨#[101, 115]⟩, ⟨#[42]⟩, ⟨#[36, 97, 109, 101, 114]⟩⟩,
  ⟨3, 4, false, ⟨#[42]⟩, ⟨#[42]⟩, ⟨#[42]⟩, ⟨#[42]⟩, ⟨#[42]⟩, ⟨#[42]⟩⟩]
def mbs15 : List Mx := [⟨⟨#[97, 109, 101, 114]⟩, ⟨#[52, 49, 57]⟩⟩,
  ⟨⟨#[97, 109, 101, 114]⟩, ⟨#[97, 114]⟩⟩,
  ⟨⟨#[97, 109, 101, 114]⟩, ⟨#[109, 120]⟩⟩,
  ⟨⟨#[97, 109, 101, 114]⟩, ⟨#[117, 115]⟩⟩,
  ⟨⟨#[101, 110, 117, 115]⟩, ⟨#[117, 115]⟩⟩,
  ⟨⟨#[101, 110, 117, 115]⟩, ⟨#[112, 114]⟩⟩,
  ⟨⟨#[101, 110, 117, 115]⟩, ⟨#[103, 117]⟩⟩]
set_option maxRecDepth 100000 in
set_option maxHeartbeats 2000000 in
theorem aliases_15 (w : World) : Calls Try.prog 35 #[] w fun e w' => e = .returned (.slice (some ⟨w.heap.size, 0, none⟩) 54 54) ∧ w' = w.alloc (.cells (als15.flatMap axC).toArray 54) := by
  obtain ⟨N, hN⟩ : ∃ N, w.heap.size = N := ⟨_, rfl⟩
  rw [hN]
  go_enter Try.func35, Try.ntmps35
  go_upto_region 1 with fail
  refine wp_region_lit ?_
  refine wpList_litsN 54 (⟨(.slice none 0 0 :: ((als15.map fun x => Value.agg (axC x).toArray) ++ [undef])).toArray, []⟩) (by kernel_rfl) ?_
  simp only [List.drop_succ_cons, List.drop_zero]
  refine wpList_litRow 30 54 54 _ rfl rfl (by kernel_rfl) (als15.flatMap axC).toArray N hN (by kernel_rfl) (a' := ⟨(.slice none 0 0 :: ((als15.map fun x => Value.agg (axC x).toArray) ++ [.slice (some ⟨N, 0, none⟩) 54 54])).toArray, []⟩) (by kernel_rfl) ?_
  refine wpList_litsN 1 (⟨(.slice (some ⟨N, 0, none⟩) 54 54 :: ((als15.map fun x => Value.agg (axC x).toArray) ++ [.slice (some ⟨N, 0, none⟩) 54 54])).toArray, []⟩) (by kernel_rfl) ?_
  simp only [List.drop_succ_cons, List.drop_zero]
  refine wpList_nil ?_
  generalize (als15.map fun x => Value.agg (axC x).toArray) ++ [.slice (some ⟨N, 0, none⟩) 54 54] = rest
  go_wp2
  go_ret
  exact ⟨rfl, rfl⟩
set_option maxRecDepth 100000 in
set_option maxHeartbeats 2000000 in
theorem likelies_15 (w : World) : Calls Try.prog 36 #[] w fun e w' => e = .returned (.slice (some ⟨w.heap.size, 0, none⟩) 32 32) ∧ w' = w.alloc (.cells (lks15.flatMap lxC).toArray 61) := by
  obtain ⟨N, hN⟩ : ∃ N, w.heap.size = N := ⟨_, rfl⟩
  rw [hN]
  go_enter Try.func36, Try.ntmps36
  go_upto_region 1 with fail
  refine wp_region_lit ?_
  refine wpList_litsN 32 (⟨(.slice none 0 0 :: ((lks15.map fun x => Value.agg (lxC x).toArray) ++ [undef])).toArray, []⟩) (by kernel_rfl) ?_
  simp only [List.drop_succ_cons, List.drop_zero]
  refine wpList_litRow 31 61 32 _ rfl rfl (by kernel_rfl) (lks15.flatMap lxC).toArray N hN (by kernel_rfl) (a' := ⟨(.slice none 0 0 :: ((lks15.map fun x => Value.agg (lxC x).toArray) ++ [.slice (some ⟨N, 0, none⟩) 32 32])).toArray, []⟩) (by kernel_rfl) ?_
  refine wpList_litsN 1 (⟨(.slice (some ⟨N, 0, none⟩) 32 32 :: ((lks15.map fun x => Value.agg (lxC x).toArray) ++ [.slice (some ⟨N, 0, none⟩) 32 32])).toArray, []⟩) (by kernel_rfl) ?_
  simp only [List.drop_succ_cons, List.drop_zero]
  refine wpList_nil ?_
  generalize (lks15.map fun x => Value.agg (lxC x).toArray) ++ [.slice (some ⟨N, 0, none⟩) 32 32] = rest
  go_wp2
  go_ret
  exact ⟨rfl, rfl⟩
set_option maxRecDepth 100000 in
set_option maxHeartbeats 2000000 in
theorem rules_15 (w : World) : Calls Try.prog 37 #[] w fun e w' => e = .returned (.slice (some ⟨w.heap.size, 0, none⟩) 15 15) ∧ w' = w.alloc (.cells (rls15.flatMap rxC).toArray 64) := by
  obtain ⟨N, hN⟩ : ∃ N, w.heap.size = N := ⟨_, rfl⟩
  rw [hN]
  go_enter Try.func37, Try.ntmps37
  go_upto_region 1 with fail
  refine wp_region_lit ?_
  refine wpList_litsN 45 (⟨(.slice none 0 0 :: ((rls15.flatMap fun x => [Value.agg #[.string x.d0, .string x.d1, .string x.d2], Value.agg #[.string x.s0, .string x.s1, .string x.s2], Value.agg (rxC x).toArray]) ++ [undef])).toArray, []⟩) (by kernel_rfl) ?_
  simp only [List.drop_succ_cons, List.drop_zero]
  refine wpList_litRow 32 64 15 _ rfl rfl (by kernel_rfl) (rls15.flatMap rxC).toArray N hN (by kernel_rfl) (a' := ⟨(.slice none 0 0 :: ((rls15.flatMap fun x => [Value.agg #[.string x.d0, .string x.d1, .string x.d2], Value.agg #[.string x.s0, .string x.s1, .string x.s2], Value.agg (rxC x).toArray]) ++ [.slice (some ⟨N, 0, none⟩) 15 15])).toArray, []⟩) (by kernel_rfl) ?_
  refine wpList_litsN 1 (⟨(.slice (some ⟨N, 0, none⟩) 15 15 :: ((rls15.flatMap fun x => [Value.agg #[.string x.d0, .string x.d1, .string x.d2], Value.agg #[.string x.s0, .string x.s1, .string x.s2], Value.agg (rxC x).toArray]) ++ [.slice (some ⟨N, 0, none⟩) 15 15])).toArray, []⟩) (by kernel_rfl) ?_
  simp only [List.drop_succ_cons, List.drop_zero]
  refine wpList_nil ?_
  generalize (rls15.flatMap fun x => [Value.agg #[.string x.d0, .string x.d1, .string x.d2], Value.agg #[.string x.s0, .string x.s1, .string x.s2], Value.agg (rxC x).toArray]) ++ [.slice (some ⟨N, 0, none⟩) 15 15] = rest
  go_wp2
  go_ret
  exact ⟨rfl, rfl⟩
set_option maxRecDepth 100000 in
set_option maxHeartbeats 2000000 in
theorem members_15 (w : World) : Calls Try.prog 38 #[] w fun e w' => e = .returned (.slice (some ⟨w.heap.size, 0, none⟩) 7 7) ∧ w' = w.alloc (.cells (mbs15.flatMap mxC).toArray 67) := by
  obtain ⟨N, hN⟩ : ∃ N, w.heap.size = N := ⟨_, rfl⟩
  rw [hN]
  go_enter Try.func38, Try.ntmps38
  go_upto_region 1 with fail
  refine wp_region_lit ?_
  refine wpList_litsN 7 (⟨(.slice none 0 0 :: ((mbs15.map fun x => Value.agg (mxC x).toArray) ++ [undef])).toArray, []⟩) (by kernel_rfl) ?_
  simp only [List.drop_succ_cons, List.drop_zero]
  refine wpList_litRow 33 67 7 _ rfl rfl (by kernel_rfl) (mbs15.flatMap mxC).toArray N hN (by kernel_rfl) (a' := ⟨(.slice none 0 0 :: ((mbs15.map fun x => Value.agg (mxC x).toArray) ++ [.slice (some ⟨N, 0, none⟩) 7 7])).toArray, []⟩) (by kernel_rfl) ?_
  refine wpList_litsN 1 (⟨(.slice (some ⟨N, 0, none⟩) 7 7 :: ((mbs15.map fun x => Value.agg (mxC x).toArray) ++ [.slice (some ⟨N, 0, none⟩) 7 7])).toArray, []⟩) (by kernel_rfl) ?_
  simp only [List.drop_succ_cons, List.drop_zero]
  refine wpList_nil ?_
  generalize (mbs15.map fun x => Value.agg (mxC x).toArray) ++ [.slice (some ⟨N, 0, none⟩) 7 7] = rest
  go_wp2
  go_ret
  exact ⟨rfl, rfl⟩
end Go.Proofs.Ythjfcfhibdpbnaa

namespace Go.Proofs.Ythjfcfhibdpbnaa
open Go Go.RowKit

/-- A row of literals, new, in memory. -/
def Row15 (w : World) (n : Nat) (cells : List Value) (t : TypeId) (e : Ending) (w' : World) : Prop := ∃ g, e = .returned (.slice (some ⟨g, 0, none⟩) n n) ∧ w.heap.size ≤ g ∧ w'.heap[g]? = some (.cells cells.toArray t (0, 0)) ∧ Below w.heap.size w w'
theorem Row15.of {w w' : World} {n : Nat} {cells : List Value} {t : TypeId} {e : Ending} (h : e = .returned (.slice (some ⟨w.heap.size, 0, none⟩) n n) ∧ w' = w.alloc (.cells cells.toArray t)) : Row15 w n cells t e w' := by
  obtain ⟨rfl, rfl⟩ := h
  exact ⟨_, rfl, Nat.le_refl _, World.alloc_heap_new w _, (Below.refl _ w).alloc (Nat.le_refl _) _⟩
/-- The image of layer 15 in memory: its four rows, one behind the other. -/
structure Im15 (W : World) (b g1 g2 g3 g4 : Nat) : Prop where
  a : W.heap[g1]? = some (.cells (als15.flatMap axC).toArray 54 (0, 0))
  l : W.heap[g2]? = some (.cells (lks15.flatMap lxC).toArray 61 (0, 0))
  r : W.heap[g3]? = some (.cells (rls15.flatMap rxC).toArray 64 (0, 0))
  m : W.heap[g4]? = some (.cells (mbs15.flatMap mxC).toArray 67 (0, 0))
  o1 : b ≤ g1
  o2 : g1 < g2
  o3 : g2 < g3
  o4 : g3 < g4
theorem Im15.below {W W' : World} {b g1 g2 g3 g4 : Nat} (h : Im15 W b g1 g2 g3 g4) (hb : Below W.heap.size W W') : Im15 W' b g1 g2 g3 g4 :=
  ⟨(hb.block _ (lt_of_block h.a)).trans h.a, (hb.block _ (lt_of_block h.l)).trans h.l, (hb.block _ (lt_of_block h.r)).trans h.r, (hb.block _ (lt_of_block h.m)).trans h.m, h.o1, h.o2, h.o3, h.o4⟩
def Image15 (w : World) (e : Ending) (w' : World) : Prop := ∃ g1 g2 g3 g4, e = .returned (.agg #[.slice (some ⟨g1, 0, none⟩) 54 54, .slice (some ⟨g2, 0, none⟩) 32 32, .slice (some ⟨g3, 0, none⟩) 15 15, .slice (some ⟨g4, 0, none⟩) 7 7, .int .i64 40, .int .i64 5]) ∧ Im15 w' w.heap.size g1 g2 g3 g4 ∧ Below w.heap.size w w'
theorem sizeIm15 : (Try.prog.info? 35).map (·.size) = some 6 := by kernel_rfl
theorem belowA_setRow {n g : Nat} {W W' : World} (h : Below n W W') (hg : n ≤ g) (cs : Array Value) : Below n W (W'.setRow g cs) :=
  h.trans ⟨rfl, rfl, rfl, by simp [World.setRow], fun k hk => setRow_other W' g k cs (by omega)⟩
set_option maxRecDepth 100000 in
set_option maxHeartbeats 2000000 in
theorem image_15 (w : World) : Calls Try.prog 10 #[] w (Image15 w) := by
  obtain ⟨W0, hW0⟩ : ∃ W0, w.alloc (.cells #[.slice none 0 0, .slice none 0 0, .slice none 0 0, .slice none 0 0, .int .i64 0, .int .i64 0] 35) = W0 := ⟨_, rfl⟩
  have hb0 : Below w.heap.size w W0 := by rw [← hW0]; exact (Below.refl _ w).alloc (Nat.le_refl _) _
  have hA0 : W0.heap[w.heap.size]? = some (.cells #[.slice none 0 0, .slice none 0 0, .slice none 0 0, .slice none 0 0, .int .i64 0, .int .i64 0] 35 (0, 0)) := by rw [← hW0]; exact World.alloc_heap_new w _
  have HA := Lib.hid (fun w' => (aliases_15 w').mono (R' := Row15 w' 54 (als15.flatMap axC) 54) fun _ _ h => Row15.of h)
  have HL := Lib.hid (fun w' => (likelies_15 w').mono (R' := Row15 w' 32 (lks15.flatMap lxC) 61) fun _ _ h => Row15.of h)
  have HR := Lib.hid (fun w' => (rules_15 w').mono (R' := Row15 w' 15 (rls15.flatMap rxC) 64) fun _ _ h => Row15.of h)
  have HM := Lib.hid (fun w' => (members_15 w').mono (R' := Row15 w' 7 (mbs15.flatMap mxC) 67) fun _ _ h => Row15.of h)
  have HW0 := Lib.hid hW0
  clear hW0
  unfold Image15
  have HB0 := Lib.hid hb0
  have HA0 := Lib.hid hA0
  clear hb0 hA0
  go_enter Try.func10, Try.ntmps10
  go_upto_region 1 with fail
  try rw [HW0.out]
  go_wp2_with (first
    | (go_at_call 35; (with_reducible refine (HA.out _).mono ?_); rintro e w1 ⟨g1, rfl, hg1, hc1, hb1⟩; have H1 := Lib.hid (And.intro hg1 (And.intro hc1 hb1)); clear hg1 hc1 hb1)
    | (go_at_call 36; (with_reducible refine (HL.out _).mono ?_); rintro e w2 ⟨g2, rfl, hg2, hc2, hb2⟩; have H2 := Lib.hid (And.intro hg2 (And.intro hc2 hb2)); clear hg2 hc2 hb2)
    | (go_at_call 37; (with_reducible refine (HR.out _).mono ?_); rintro e w3 ⟨g3, rfl, hg3, hc3, hb3⟩; have H3 := Lib.hid (And.intro hg3 (And.intro hc3 hb3)); clear hg3 hc3 hb3)
    | (go_at_call 38; (with_reducible refine (HM.out _).mono ?_); rintro e w4 ⟨g4, rfl, hg4, hc4, hb4⟩; obtain ⟨hg1, hc1, hb1⟩ := H1.out; obtain ⟨hg2, hc2, hb2⟩ := H2.out; obtain ⟨hg3, hc3, hb3⟩ := H3.out; have hb12 := hb1.trans (hb2.mono hb1.size); have hb13 := hb12.trans (hb3.mono hb12.size); have hb14 := hb13.trans (hb4.mono hb13.size); have hI := (hb14.block _ (lt_of_block HA0.out)).trans HA0.out; have q1 := lt_of_block hc1; have q2 := lt_of_block hc2; have q3 := lt_of_block hc3; have q0 := lt_of_block HA0.out; have HIM := Lib.hid (show Im15 w4 w.heap.size g1 g2 g3 g4 from ⟨((hb2.trans ((hb3.mono hb2.size).trans (hb4.mono (Nat.le_trans hb2.size hb3.size)))).block _ q1).trans hc1, ((hb3.trans (hb4.mono hb3.size)).block _ q2).trans hc2, (hb4.block _ q3).trans hc3, hc4, by omega, by omega, by omega, by omega⟩); have HBE := Lib.hid (HB0.out.trans (hb14.mono HB0.out.size)); have HNE := Lib.hid (show w.heap.size < g1 by omega); have HI := Lib.hid hI; clear hg1 hc1 hb1 hg2 hc2 hb2 hg3 hc3 hb3 hg4 hc4 hb4 hb12 hb13 hb14 H1 H2 H3 q0 q1 q2 q3 hI)
    | (refine wpList_store_row rfl _ _ _ rfl _ _ rfl rfl _ _ HI.out sizeIm15 rfl (by simp [Value.oneCell']) ?_))
  have hM := HIM.out
  have hne := HNE.out
  refine bodyPost_ret (results_cell_row rfl _ _ w.heap.size 35 #[.slice (some ⟨g1, 0, none⟩) 54 54, .slice (some ⟨g2, 0, none⟩) 32 32, .slice (some ⟨g3, 0, none⟩) 15 15, .slice (some ⟨g4, 0, none⟩) 7 7, .int .i64 40, .int .i64 5] (0, 0) _ rfl (setRow_heap _ _ _ _ _ _ HI.out) Try.underlying35 rfl sizeIm15) rfl ?_
  refine ⟨g1, g2, g3, g4, rfl, ⟨?_, ?_, ?_, ?_, hM.o1, hM.o2, hM.o3, hM.o4⟩, belowA_setRow HBE.out (Nat.le_refl _) _⟩
  · rw [setRow_other _ _ _ _ (by omega)]; exact hM.a
  · rw [setRow_other _ _ _ _ (by have := hM.o2; omega)]; exact hM.l
  · rw [setRow_other _ _ _ _ (by have := hM.o2; have := hM.o3; omega)]; exact hM.r
  · rw [setRow_other _ _ _ _ (by have := hM.o2; have := hM.o3; have := hM.o4; omega)]; exact hM.m
end Go.Proofs.Ythjfcfhibdpbnaa

namespace Go.Proofs.Ythjfcfhibdpbnaa
open Go Go.RowKit

theorem flatT {α : Type} {f : α → List Value} {sz : Nat} (hs : ∀ x, (f x).length = sz) : ∀ {L : List α} {k j : Nat} {x : α} {v : Value}, L[k]? = some x → (f x)[j]? = some v → (L.flatMap f)[k * sz + j]? = some v
  | [], k, j, x, v, h, _ => by simp at h
  | y :: r, 0, j, x, v, h, hv => by
    simp at h; subst h
    rw [Nat.zero_mul, Nat.zero_add, List.flatMap_cons, List.getElem?_append_left (List.getElem?_eq_some_iff.1 hv).1]
    exact hv
  | y :: r, k + 1, j, x, v, h, hv => by
    have ih := flatT hs (L := r) (k := k) (j := j) (by simpa using h) hv
    rw [List.flatMap_cons, List.getElem?_append_right (by rw [hs, Nat.succ_mul]; omega), hs, show (k + 1) * sz + j - sz = k * sz + j by rw [Nat.succ_mul]; omega]
    exact ih
def L15 : List Lr := lks15.map fun x => ⟨x.l, x.s, x.r, x.tl, x.ts, x.tr⟩
theorem L15_len : L15.length = 32 := by decide +kernel
theorem L15_small : RowS L15 := by
  have h : (L15.all fun x => decide (x.l.size ≤ 1048576) && (decide (x.s.size ≤ 1048576) && decide (x.r.size ≤ 1048576))) = true := by decide +kernel
  intro x hx
  have := List.all_eq_true.1 h x hx
  rw [Bool.and_eq_true, Bool.and_eq_true, decide_eq_true_iff, decide_eq_true_iff, decide_eq_true_iff] at this
  exact this
theorem rowL_15 {W : World} {b g1 g2 g3 g4 : Nat} (h : Im15 W b g1 g2 g3 g4) : RowL W (.slice (some ⟨g2, 0, none⟩) 32 32) L15 := by
  refine ⟨some ⟨g2, 0, none⟩, 32, by rw [L15_len], fun i x hx => ⟨g2, 0, rfl, ?_⟩⟩
  unfold L15 at hx
  rw [List.getElem?_map] at hx
  obtain ⟨y, hy, rfl⟩ := Option.map_eq_some_iff.1 hx
  have hc : ∀ j v, (lxC y)[j]? = some v → W.cell? ⟨g2, 0 + i * 6 + j, none⟩ = some v := fun j v hv => by
    have h1 := flatT (f := lxC) (sz := 6) (fun _ => rfl) hy hv
    rw [Nat.zero_add]
    refine cell_rowT _ h.l ?_
    simpa using h1
  exact ⟨hc 0 _ rfl, hc 1 _ rfl, hc 2 _ rfl, hc 3 _ rfl, hc 4 _ rfl, hc 5 _ rfl⟩
def plainM (l s r : ByteArray) : TagM := ⟨l, [], s, r, [], [], [], ⟨#[]⟩⟩
theorem nil_rowT (W : World) : Row W (.slice none 0 0) [] := ⟨none, 0, rfl, fun i x h => by simp at h⟩
theorem nil_extT (W : World) : ExtRow W (.slice none 0 0) [] := ⟨none, 0, rfl, fun i x h => by simp at h⟩
theorem plain_is (W : World) (l s r : ByteArray) : TagIs W (.agg #[.string l, .slice none 0 0, .string s, .string r, .slice none 0 0, .slice none 0 0, .slice none 0 0, .string ⟨#[]⟩]) (plainM l s r) :=
  ⟨_, _, _, _, rfl, nil_rowT W, nil_rowT W, nil_extT W, nil_rowT W⟩
theorem plain_fits (l s r : ByteArray) : TagFits (plainM l s r) := ⟨Nat.zero_le _, Nat.zero_le _, Nat.zero_le _, (fun _ h => by cases h), Nat.zero_le _, Nat.zero_le _⟩
/- Maximize at a tag of a language, a script, a region alone. -/
set_option maxRecDepth 100000 in
theorem max_plain (a1 a3 a4 : Option Addr) (n1 c1 n3 c3 n4 c4 : Nat) (th de : Int) (lk : Value) (L : List Lr) (l s r l' s' r' : ByteArray) (w : World) (hL : RowL w lk L) (hl : L.length ≤ 4000) (hS : RowS L) (hK : KST (l, s, r))
    (hm : (maxT L (plainM l s r)).2 = true ∧ (maxT L (plainM l s r)).1.lang = l' ∧ (maxT L (plainM l s r)).1.script = s' ∧ (maxT L (plainM l s r)).1.region = r') :
    Calls Try.prog 14 #[.agg #[.slice a1 n1 c1, lk, .slice a3 n3 c3, .slice a4 n4 c4, .int .i64 th, .int .i64 de], .agg #[.string l, .slice none 0 0, .string s, .string r, .slice none 0 0, .slice none 0 0, .slice none 0 0, .string ⟨#[]⟩]] w fun e w' =>
      ∃ b1 m1 d1 b2 m2 d2 b3 m3 d3 b4 m4 d4 g, e = .returned (.tuple #[.agg #[.string l', .slice b1 m1 d1, .string s', .string r', .slice b2 m2 d2, .slice b3 m3 d3, .slice b4 m4 d4, .string g], .bool true]) ∧ Below w.heap.size w w' := by
  refine (maxi_any a1 a3 a4 n1 c1 n3 c3 n4 c4 th de lk L _ (plainM l s r) w hL hl hS (plain_is w l s r) (plain_fits l s r) hK).mono ?_
  rintro e w' ⟨u, rfl, hT, hb⟩
  obtain ⟨ve, vv, vx, vp, rfl, ⟨b1, d1, rfl, _⟩, ⟨b2, d2, rfl, _⟩, ⟨b3, d3, rfl, _⟩, ⟨b4, d4, rfl, _⟩⟩ := hT
  obtain ⟨h1, h2, h3, h4⟩ := hm
  rw [h1, h2, h3, h4]
  exact ⟨_, _, _, _, _, _, _, _, _, _, _, _, _, rfl, hb⟩

set_option maxRecDepth 100000 in
set_option maxHeartbeats 2000000 in
theorem awake18_any (w : World) : Calls Try.prog 6 #[] w fun e w' => e = .returned (.bool true) ∧ Below w.heap.size w w' := by
  have HIM := Lib.hid (image_15 w)
  have M1 : (maxT L15 (plainM ⟨#[122, 104]⟩ ⟨#[]⟩ ⟨#[116, 119]⟩)).2 = true ∧ (maxT L15 (plainM ⟨#[122, 104]⟩ ⟨#[]⟩ ⟨#[116, 119]⟩)).1.lang = ⟨#[122, 104]⟩ ∧ (maxT L15 (plainM ⟨#[122, 104]⟩ ⟨#[]⟩ ⟨#[116, 119]⟩)).1.script = ⟨#[104, 97, 110, 116]⟩ ∧ (maxT L15 (plainM ⟨#[122, 104]⟩ ⟨#[]⟩ ⟨#[116, 119]⟩)).1.region = ⟨#[116, 119]⟩ := by decide +kernel
  have M2 : (maxT L15 (plainM ⟨#[117, 110, 100]⟩ ⟨#[99, 121, 114, 108]⟩ ⟨#[]⟩)).2 = true ∧ (maxT L15 (plainM ⟨#[117, 110, 100]⟩ ⟨#[99, 121, 114, 108]⟩ ⟨#[]⟩)).1.lang = ⟨#[114, 117]⟩ ∧ (maxT L15 (plainM ⟨#[117, 110, 100]⟩ ⟨#[99, 121, 114, 108]⟩ ⟨#[]⟩)).1.script = ⟨#[99, 121, 114, 108]⟩ ∧ (maxT L15 (plainM ⟨#[117, 110, 100]⟩ ⟨#[99, 121, 114, 108]⟩ ⟨#[]⟩)).1.region = ⟨#[114, 117]⟩ := by decide +kernel
  have M3 : (maxT L15 (plainM ⟨#[101, 110]⟩ ⟨#[115, 104, 97, 119]⟩ ⟨#[]⟩)).2 = true ∧ (maxT L15 (plainM ⟨#[101, 110]⟩ ⟨#[115, 104, 97, 119]⟩ ⟨#[]⟩)).1.lang = ⟨#[101, 110]⟩ ∧ (maxT L15 (plainM ⟨#[101, 110]⟩ ⟨#[115, 104, 97, 119]⟩ ⟨#[]⟩)).1.script = ⟨#[115, 104, 97, 119]⟩ ∧ (maxT L15 (plainM ⟨#[101, 110]⟩ ⟨#[115, 104, 97, 119]⟩ ⟨#[]⟩)).1.region = ⟨#[103, 98]⟩ := by decide +kernel
  go_enter Try.func6, Try.ntmps6
  go_upto_region 2 with (go_at_call 10; (with_reducible refine HIM.out.mono ?_); rintro e w1 ⟨g1, g2, g3, g4, rfl, hI, hb⟩; have HI := Lib.hid hI; have HB := Lib.hid hb; clear hI hb)
  obtain ⟨W1, hW1⟩ : ∃ W1, w1.alloc (.cells #[.slice (some ⟨g1, 0, none⟩) 54 54, .slice (some ⟨g2, 0, none⟩) 32 32, .slice (some ⟨g3, 0, none⟩) 15 15, .slice (some ⟨g4, 0, none⟩) 7 7, .int .i64 40, .int .i64 5] 35) = W1 := ⟨_, rfl⟩
  rw [hW1]
  have HBW := Lib.hid (show Below w1.heap.size w1 W1 by rw [← hW1]; exact (Below.refl _ _).alloc (Nat.le_refl _) _)
  have hX := show W1.heap[w1.heap.size]? = some (.cells #[.slice (some ⟨g1, 0, none⟩) 54 54, .slice (some ⟨g2, 0, none⟩) 32 32, .slice (some ⟨g3, 0, none⟩) 15 15, .slice (some ⟨g4, 0, none⟩) 7 7, .int .i64 40, .int .i64 5] 35 (0, 0)) by rw [← hW1]; exact World.alloc_heap_new w1 _
  have HC := Lib.hid (fun (w' : World) (hb : Below W1.heap.size W1 w') => show w'.cell? ⟨w1.heap.size, 0, none⟩ = some (.slice (some ⟨g1, 0, none⟩) 54 54) ∧ w'.cell? ⟨w1.heap.size, 1, none⟩ = some (.slice (some ⟨g2, 0, none⟩) 32 32) ∧ w'.cell? ⟨w1.heap.size, 2, none⟩ = some (.slice (some ⟨g3, 0, none⟩) 15 15) ∧ w'.cell? ⟨w1.heap.size, 3, none⟩ = some (.slice (some ⟨g4, 0, none⟩) 7 7) ∧ w'.cell? ⟨w1.heap.size, 4, none⟩ = some (.int .i64 40) ∧ w'.cell? ⟨w1.heap.size, 5, none⟩ = some (.int .i64 5) from by
    have h := (hb.block _ (lt_blockT hX)).trans hX
    exact ⟨cell_rowT 0 h rfl, cell_rowT 1 h rfl, cell_rowT 2 h rfl, cell_rowT 3 h rfl, cell_rowT 4 h rfl, cell_rowT 5 h rfl⟩)
  have HRL := Lib.hid (fun (w' : World) (hb : Below W1.heap.size W1 w') => ((rowL_15 HI.out).below HBW.out).below hb)
  have HB01 := Lib.hid (show Below w.heap.size w W1 from HB.out.trans (HBW.out.mono HB.out.size))
  have C1 := Lib.hid (fun (w5 : World) (hb : Below W1.heap.size W1 w5) => max_plain (some ⟨g1, 0, none⟩) (some ⟨g3, 0, none⟩) (some ⟨g4, 0, none⟩) 54 54 15 15 7 7 40 5 _ L15 _ _ _ _ _ _ w5 (HRL.out w5 hb) (by rw [L15_len]; decide) L15_small ⟨by decide, by decide, by decide⟩ M1)
  have C2 := Lib.hid (fun (w5 : World) (hb : Below W1.heap.size W1 w5) => max_plain (some ⟨g1, 0, none⟩) (some ⟨g3, 0, none⟩) (some ⟨g4, 0, none⟩) 54 54 15 15 7 7 40 5 _ L15 _ _ _ _ _ _ w5 (HRL.out w5 hb) (by rw [L15_len]; decide) L15_small ⟨by decide, by decide, by decide⟩ M2)
  have C3 := Lib.hid (fun (w5 : World) (hb : Below W1.heap.size W1 w5) => max_plain (some ⟨g1, 0, none⟩) (some ⟨g3, 0, none⟩) (some ⟨g4, 0, none⟩) 54 54 15 15 7 7 40 5 _ L15 _ _ _ _ _ _ w5 (HRL.out w5 hb) (by rw [L15_len]; decide) L15_small ⟨by decide, by decide, by decide⟩ M3)
  clear hX hW1 M1 M2 M3 HIM
  obtain ⟨c0, c1, c2, c3, c4, c5⟩ := HC.out W1 (Below.refl _ _)
  go_upto_region 3 with (go_at_call 14; (with_reducible refine (C1.out _ (Below.refl _ _)).mono ?_); rintro e w2 ⟨b1, m1, d1, b2, m2, d2, b3, m3, d3, b4, m4, d4, g, rfl, hb2⟩; have HB2 := Lib.hid hb2; clear hb2)
  obtain ⟨W2, hW2⟩ : ∃ W2, w2.alloc (.cells #[.string ⟨#[122, 104]⟩, .slice b1 m1 d1, .string ⟨#[104, 97, 110, 116]⟩, .string ⟨#[116, 119]⟩, .slice b2 m2 d2, .slice b3 m3 d3, .slice b4 m4 d4, .string g] 40) = W2 := ⟨_, rfl⟩
  rw [hW2]
  have HBW2 := Lib.hid (show Below w2.heap.size w2 W2 by rw [← hW2]; exact (Below.refl _ _).alloc (Nat.le_refl _) _)
  have HX2 := Lib.hid (show W2.heap[w2.heap.size]? = some (.cells #[.string ⟨#[122, 104]⟩, .slice b1 m1 d1, .string ⟨#[104, 97, 110, 116]⟩, .string ⟨#[116, 119]⟩, .slice b2 m2 d2, .slice b3 m3 d3, .slice b4 m4 d4, .string g] 40 (0, 0)) by rw [← hW2]; exact World.alloc_heap_new w2 _)
  have HB12 := Lib.hid (show Below W1.heap.size W1 W2 from HB2.out.trans (HBW2.out.mono HB2.out.size))
  clear hW2 c0 c1 c2 c3 c4 c5
  obtain ⟨c0, c1, c2, c3, c4, c5⟩ := HC.out W2 HB12.out
  go_upto_region 4 with (go_at_call 14; (with_reducible refine (C2.out _ HB12.out).mono ?_); rintro e w3 ⟨e1, p1, f1, e2, p2, f2, e3, p3, f3, e4, p4, f4, g', rfl, hb3⟩; have HB3 := Lib.hid hb3; clear hb3)
  obtain ⟨W3, hW3⟩ : ∃ W3, w3.alloc (.cells #[.string ⟨#[114, 117]⟩, .slice e1 p1 f1, .string ⟨#[99, 121, 114, 108]⟩, .string ⟨#[114, 117]⟩, .slice e2 p2 f2, .slice e3 p3 f3, .slice e4 p4 f4, .string g'] 40) = W3 := ⟨_, rfl⟩
  rw [hW3]
  have HBW3 := Lib.hid (show Below w3.heap.size w3 W3 by rw [← hW3]; exact (Below.refl _ _).alloc (Nat.le_refl _) _)
  have HX3 := Lib.hid (show W3.heap[w3.heap.size]? = some (.cells #[.string ⟨#[114, 117]⟩, .slice e1 p1 f1, .string ⟨#[99, 121, 114, 108]⟩, .string ⟨#[114, 117]⟩, .slice e2 p2 f2, .slice e3 p3 f3, .slice e4 p4 f4, .string g'] 40 (0, 0)) by rw [← hW3]; exact World.alloc_heap_new w3 _)
  have HB23 := Lib.hid (show Below W2.heap.size W2 W3 from HB3.out.trans (HBW3.out.mono HB3.out.size))
  have HB13 := Lib.hid (show Below W1.heap.size W1 W3 from HB12.out.trans (HB23.out.mono HB12.out.size))
  clear hW3 c0 c1 c2 c3 c4 c5
  obtain ⟨c0, c1, c2, c3, c4, c5⟩ := HC.out W3 HB13.out
  go_upto_region 5 with (go_at_call 14; (with_reducible refine (C3.out _ HB13.out).mono ?_); rintro e w4 ⟨h1, q1, k1, h2, q2, k2, h3, q3, k3, h4, q4, k4, g'', rfl, hb4⟩; have HB4 := Lib.hid hb4; clear hb4)
  obtain ⟨W4, hW4⟩ : ∃ W4, w4.alloc (.cells #[.string ⟨#[101, 110]⟩, .slice h1 q1 k1, .string ⟨#[115, 104, 97, 119]⟩, .string ⟨#[103, 98]⟩, .slice h2 q2 k2, .slice h3 q3 k3, .slice h4 q4 k4, .string g''] 40) = W4 := ⟨_, rfl⟩
  rw [hW4]
  have HBW4 := Lib.hid (show Below w4.heap.size w4 W4 by rw [← hW4]; exact (Below.refl _ _).alloc (Nat.le_refl _) _)
  have hX4 := show W4.heap[w4.heap.size]? = some (.cells #[.string ⟨#[101, 110]⟩, .slice h1 q1 k1, .string ⟨#[115, 104, 97, 119]⟩, .string ⟨#[103, 98]⟩, .slice h2 q2 k2, .slice h3 q3 k3, .slice h4 q4 k4, .string g''] 40 (0, 0)) by rw [← hW4]; exact World.alloc_heap_new w4 _
  have HB34 := Lib.hid (show Below W3.heap.size W3 W4 from HB4.out.trans (HBW4.out.mono HB4.out.size))
  have y3 := cell_rowT 3 hX4 rfl
  have hX3 := (HB34.out.block _ (lt_blockT HX3.out)).trans HX3.out
  have y0 := cell_rowT 0 hX3 rfl
  have y1 := cell_rowT 3 hX3 rfl
  have hX2 := ((HB34.out.block _ (Nat.lt_of_lt_of_le (lt_blockT HX2.out) HB23.out.size)).trans ((HB23.out.block _ (lt_blockT HX2.out)).trans HX2.out))
  have y2 := cell_rowT 2 hX2 rfl
  have HE := Lib.hid (show Below w.heap.size w W4 from (HB01.out.trans (HB13.out.mono HB01.out.size)).trans (HB34.out.mono (Nat.le_trans HB01.out.size HB13.out.size)))
  clear hX2 hX3 hX4 hW4 c0 c1 c2 c3 c4 c5
  go_wp2_with fail
  go_ret
  exact ⟨rfl, HE.out⟩
end Go.Proofs.Ythjfcfhibdpbnaa

namespace Go.Proofs.Ythjfcfhibdpbnaa
open Go Go.RowKit

/-- A row that lies whole in a block of its own. -/
theorem Row.of_block {W : World} {g : Nat} (l : List ByteArray) {t : TypeId} (n cap : Nat) (hn : n = l.length) (h : W.heap[g]? = some (.cells (strs l).toArray t (0, 0))) : Row W (.slice (some ⟨g, 0, none⟩) n cap) l := by
  subst hn
  refine ⟨some ⟨g, 0, none⟩, cap, rfl, fun i x hx => ⟨g, rfl, ?_⟩⟩
  simp [World.cell?, h, strs, hx]
/-- One of words by a number. -/
def pickI (L : Nat) (n : Int) : Nat := (Int.tmod (Int.tmod n L + L) L).toNat
def pickT (l : List ByteArray) (n : Int) : ByteArray := l.getD (pickI l.length n) ByteArray.empty
theorem pick_facts (L : Nat) (n : Int) (hL : 0 < L) : -(L : Int) < Int.tmod n L ∧ Int.tmod n L < L ∧ Int.tmod (Int.tmod n L + L) L = (pickI L n : Int) ∧ pickI L n < L := by
  have h1 := Int.lt_tmod_of_pos n (show (0 : Int) < L by omega)
  have h2 := Int.tmod_lt_of_pos n (show (0 : Int) < L by omega)
  have h3 : 0 ≤ Int.tmod (Int.tmod n L + L) L := Int.tmod_nonneg _ (by omega)
  have h4 := Int.tmod_lt_of_pos (Int.tmod n L + L) (show (0 : Int) < L by omega)
  refine ⟨h1, h2, ?_, ?_⟩
  · unfold pickI; omega
  · unfold pickI; omega
set_option maxRecDepth 100000 in
set_option maxHeartbeats 1000000 in
theorem pick_ref (v : Value) (l : List ByteArray) (n : Int) (w : World) (hv : Row w v l) (h0 : 0 < l.length) (hl : l.length ≤ 100) :
    Calls Try.prog 20 #[v, .int .i64 n] w fun e w' => e = .returned (.string (pickT l n)) ∧ w = w' := by
  obtain ⟨ao, cap, rfl, hc⟩ := hv
  obtain ⟨h1, h2, h3, h4⟩ := pick_facts l.length n h0
  obtain ⟨x, hx⟩ : ∃ x, l[pickI l.length n]? = some x := ⟨_, List.getElem?_eq_getElem h4⟩
  obtain ⟨g, rfl, hcell⟩ := hc _ x hx
  have HE := Lib.hid (show pickT l n = x by unfold pickT; rw [List.getD_eq_getElem?_getD, hx]; rfl)
  generalize hm : pickI l.length n = m at *
  have hz : ((l.length : Int) == 0) = false := by rw [beq_eq_false_iff_ne]; omega
  have hnz : ¬ (l.length : Int) = 0 := by omega
  generalize hr : Int.tmod n (l.length : Int) = r at *
  have hm0 : (0 : Int) ≤ (m : Int) := by omega
  have hml : (m : Int) < (l.length : Int) := by omega
  clear hc hx hm h0
  go_enter Try.func20, Try.ntmps20
  go_wp2
  go_ret
  exact ⟨ret_string HE.out.symm, rfl⟩

def langsL : List ByteArray := [⟨#[101, 110]⟩, ⟨#[122, 104]⟩, ⟨#[115, 114]⟩, ⟨#[117, 110, 100]⟩, ⟨#[105, 119]⟩, ⟨#[110, 111]⟩, ⟨#[115, 103, 110]⟩, ⟨#[109, 111]⟩, ⟨#[104, 97, 110, 116]⟩, ⟨#[97, 98, 99, 100, 101, 102, 103, 104]⟩, ⟨#[100, 101]⟩, ⟨#[114, 111, 111, 116]⟩]
set_option maxRecDepth 100000 in
theorem langs_ref (w : World) :
    Calls Try.prog 22 #[] w fun e w' => ∃ u, e = .returned u ∧ Row w' u langsL ∧ Below w.heap.size w w' := by
  go_enter Try.func22, Try.ntmps22
  go_wp2
  go_ret
  exact ⟨_, rfl, Row.of_block langsL _ _ rfl (World.alloc_heap_new w _), (Below.refl _ w).alloc (Nat.le_refl _) _⟩

def scriptsL : List ByteArray := [⟨#[]⟩, ⟨#[]⟩, ⟨#[108, 97, 116, 110]⟩, ⟨#[99, 121, 114, 108]⟩, ⟨#[104, 97, 110, 115]⟩, ⟨#[113, 97, 97, 105]⟩, ⟨#[104, 97, 110, 116]⟩]
set_option maxRecDepth 100000 in
theorem scripts_ref (w : World) :
    Calls Try.prog 23 #[] w fun e w' => ∃ u, e = .returned u ∧ Row w' u scriptsL ∧ Below w.heap.size w w' := by
  go_enter Try.func23, Try.ntmps23
  go_wp2
  go_ret
  exact ⟨_, rfl, Row.of_block scriptsL _ _ rfl (World.alloc_heap_new w _), (Below.refl _ w).alloc (Nat.le_refl _) _⟩

def regionsL : List ByteArray := [⟨#[]⟩, ⟨#[]⟩, ⟨#[117, 115]⟩, ⟨#[103, 98]⟩, ⟨#[52, 49, 57]⟩, ⟨#[100, 100]⟩, ⟨#[99, 110]⟩, ⟨#[98, 114]⟩, ⟨#[115, 117]⟩]
set_option maxRecDepth 100000 in
theorem regions_ref (w : World) :
    Calls Try.prog 24 #[] w fun e w' => ∃ u, e = .returned u ∧ Row w' u regionsL ∧ Below w.heap.size w w' := by
  go_enter Try.func24, Try.ntmps24
  go_wp2
  go_ret
  exact ⟨_, rfl, Row.of_block regionsL _ _ rfl (World.alloc_heap_new w _), (Below.refl _ w).alloc (Nat.le_refl _) _⟩

def variantsL : List ByteArray := [⟨#[49, 57, 57, 52]⟩, ⟨#[104, 101, 112, 108, 111, 99]⟩, ⟨#[102, 111, 110, 105, 112, 97]⟩, ⟨#[97, 114, 101, 118, 101, 108, 97]⟩, ⟨#[49, 97, 50, 98]⟩, ⟨#[115, 99, 111, 117, 115, 101]⟩]
set_option maxRecDepth 100000 in
theorem variants_ref (w : World) :
    Calls Try.prog 25 #[] w fun e w' => ∃ u, e = .returned u ∧ Row w' u variantsL ∧ Below w.heap.size w w' := by
  go_enter Try.func25, Try.ntmps25
  go_wp2
  go_ret
  exact ⟨_, rfl, Row.of_block variantsL _ _ rfl (World.alloc_heap_new w _), (Below.refl _ w).alloc (Nat.le_refl _) _⟩

def wordsL : List ByteArray := [⟨#[99, 97]⟩, ⟨#[98, 117, 100, 100, 104, 105, 115, 116]⟩, ⟨#[99, 111]⟩, ⟨#[116, 114, 117, 101]⟩, ⟨#[107, 110]⟩, ⟨#[112, 104, 111, 110, 101, 98, 107]⟩, ⟨#[109, 48]⟩, ⟨#[101, 110]⟩, ⟨#[97, 98, 49]⟩, ⟨#[105, 115, 108, 97, 109, 105, 99, 99]⟩, ⟨#[104, 48]⟩]
set_option maxRecDepth 100000 in
theorem words_ref (w : World) :
    Calls Try.prog 26 #[] w fun e w' => ∃ u, e = .returned u ∧ Row w' u wordsL ∧ Below w.heap.size w w' := by
  go_enter Try.func26, Try.ntmps26
  go_wp2
  go_ret
  exact ⟨_, rfl, Row.of_block wordsL _ _ rfl (World.alloc_heap_new w _), (Below.refl _ w).alloc (Nat.le_refl _) _⟩
end Go.Proofs.Ythjfcfhibdpbnaa

namespace Go.Proofs.Ythjfcfhibdpbnaa
open Go Go.RowKit

def langs18 : List ByteArray := [⟨#[101, 110]⟩, ⟨#[122, 104]⟩, ⟨#[115, 114]⟩, ⟨#[117, 110, 100]⟩, ⟨#[100, 101]⟩, ⟨#[120, 120]⟩, ⟨#[104, 101]⟩, ⟨#[114, 117]⟩, ⟨#[]⟩]
def scripts18 : List ByteArray := [⟨#[]⟩, ⟨#[]⟩, ⟨#[108, 97, 116, 110]⟩, ⟨#[99, 121, 114, 108]⟩, ⟨#[104, 97, 110, 116]⟩, ⟨#[104, 97, 110, 115]⟩, ⟨#[122, 122, 122, 122]⟩]
def regions18 : List ByteArray := [⟨#[]⟩, ⟨#[]⟩, ⟨#[117, 115]⟩, ⟨#[116, 119]⟩, ⟨#[52, 49, 57]⟩, ⟨#[109, 101]⟩, ⟨#[103, 98]⟩, ⟨#[99, 110]⟩, ⟨#[122, 122]⟩]
def tag18 (q0 q1 q2 : Int) : TagM := plainM (pickT langs18 q0) (pickT scripts18 q1) (pickT regions18 q2)
theorem pick_small {l : List ByteArray} (h : (l.all fun x => decide (x.size ≤ 100)) = true) (n : Int) : (pickT l n).size ≤ 100 := by
  unfold pickT
  rw [List.getD_eq_getElem?_getD]
  cases hx : l[pickI l.length n]? with
  | none => show (0 : Nat) ≤ 100; omega
  | some x => exact of_decide_eq_true (List.all_eq_true.1 h x (List.mem_of_getElem? hx))
theorem tag18_small (q0 q1 q2 : Int) : KST ((tag18 q0 q1 q2).lang, (tag18 q0 q1 q2).script, (tag18 q0 q1 q2).region) := by
  refine ⟨Nat.le_trans (pick_small (l := langs18) (by decide) q0) (by omega), Nat.le_trans (pick_small (l := scripts18) (by decide) q1) (by omega), Nat.le_trans (pick_small (l := regions18) (by decide) q2) (by omega)⟩
set_option maxRecDepth 100000 in
theorem rest18_any (x : Int) (w : World) : Calls Try.prog 39 #[.int .i64 x, .int .i64 6] w fun e w' => e = .returned (.int .i64 (pickI 6 x : Int)) ∧ w = w' := by
  obtain ⟨h1, h2, h3, h4⟩ := pick_facts 6 x (by omega)
  have HE := Lib.hid h3
  generalize hm : pickI 6 x = m at *
  generalize hr : Int.tmod x ((6 : Nat) : Int) = r at *
  have hr' : Int.tmod x 6 = r := hr
  have h1' : -6 < r := h1
  have h2' : r < 6 := h2
  have h3' : Int.tmod (r + 6) 6 = (m : Int) := h3
  clear hr h1 h2 h3 hm HE
  go_enter Try.func39, Try.ntmps39
  go_wp2
  go_ret
  exact ⟨rfl, rfl⟩
set_option maxRecDepth 100000 in
set_option maxHeartbeats 2000000 in
theorem plain18_any (q0 q1 q2 : Int) (w : World) : Calls Try.prog 11 #[.agg #[.int .i64 q0, .int .i64 q1, .int .i64 q2]] w fun e w' =>
    e = .returned (.agg #[.string (pickT langs18 q0), .slice none 0 0, .string (pickT scripts18 q1), .string (pickT regions18 q2), .slice none 0 0, .slice none 0 0, .slice none 0 0, .string ⟨#[]⟩]) ∧ Below w.heap.size w w' := by
  obtain ⟨W0, hW0⟩ : ∃ W0, ((((w.alloc (.cells #[.int .i64 q0, .int .i64 q1, .int .i64 q2] 28)).alloc (.cells #[.string ⟨#[]⟩, .slice none 0 0, .string ⟨#[]⟩, .string ⟨#[]⟩, .slice none 0 0, .slice none 0 0, .slice none 0 0, .string ⟨#[]⟩] 40)).alloc (.cells (strs langs18).toArray 9)).alloc (.cells (strs scripts18).toArray 9)).alloc (.cells (strs regions18).toArray 9) = W0 := ⟨_, rfl⟩
  obtain ⟨W1, hW1⟩ : ∃ W1, w.alloc (.cells #[.int .i64 q0, .int .i64 q1, .int .i64 q2] 28) = W1 := ⟨_, rfl⟩
  obtain ⟨W2, hW2⟩ : ∃ W2, W1.alloc (.cells #[.string ⟨#[]⟩, .slice none 0 0, .string ⟨#[]⟩, .string ⟨#[]⟩, .slice none 0 0, .slice none 0 0, .slice none 0 0, .string ⟨#[]⟩] 40) = W2 := ⟨_, rfl⟩
  obtain ⟨W3, hW3⟩ : ∃ W3, W2.alloc (.cells (strs langs18).toArray 9) = W3 := ⟨_, rfl⟩
  obtain ⟨W4, hW4⟩ : ∃ W4, W3.alloc (.cells (strs scripts18).toArray 9) = W4 := ⟨_, rfl⟩
  rw [hW1, hW2, hW3, hW4] at hW0
  have z1 : W1.heap.size = w.heap.size + 1 := by rw [← hW1]; simp
  have z2 : W2.heap.size = w.heap.size + 2 := by rw [← hW2]; simp [z1]
  have z3 : W3.heap.size = w.heap.size + 3 := by rw [← hW3]; simp [z2]
  have z4 : W4.heap.size = w.heap.size + 4 := by rw [← hW4]; simp [z3]
  have b01 : Below w.heap.size w W1 := by rw [← hW1]; exact (Below.refl _ _).alloc (Nat.le_refl _) _
  have b12 : Below W1.heap.size W1 W2 := by rw [← hW2]; exact (Below.refl _ _).alloc (Nat.le_refl _) _
  have b23 : Below W2.heap.size W2 W3 := by rw [← hW3]; exact (Below.refl _ _).alloc (Nat.le_refl _) _
  have b34 : Below W3.heap.size W3 W4 := by rw [← hW4]; exact (Below.refl _ _).alloc (Nat.le_refl _) _
  have b40 : Below W4.heap.size W4 W0 := by rw [← hW0]; exact (Below.refl _ _).alloc (Nat.le_refl _) _
  have x1 : W1.heap[w.heap.size]? = some (.cells #[.int .i64 q0, .int .i64 q1, .int .i64 q2] 28 (0, 0)) := by rw [← hW1]; exact World.alloc_heap_new w _
  have x2 : W2.heap[w.heap.size + 1]? = some (.cells #[.string ⟨#[]⟩, .slice none 0 0, .string ⟨#[]⟩, .string ⟨#[]⟩, .slice none 0 0, .slice none 0 0, .slice none 0 0, .string ⟨#[]⟩] 40 (0, 0)) := by rw [← hW2, ← z1]; exact World.alloc_heap_new W1 _
  have x3 : W3.heap[w.heap.size + 2]? = some (.cells (strs langs18).toArray 9 (0, 0)) := by rw [← hW3, ← z2]; exact World.alloc_heap_new W2 _
  have x4 : W4.heap[w.heap.size + 3]? = some (.cells (strs scripts18).toArray 9 (0, 0)) := by rw [← hW4, ← z3]; exact World.alloc_heap_new W3 _
  have x5 : W0.heap[w.heap.size + 4]? = some (.cells (strs regions18).toArray 9 (0, 0)) := by rw [← hW0, ← z4]; exact World.alloc_heap_new W4 _
  have y1 := (b40.block _ (by omega)).trans ((b34.block _ (by omega)).trans ((b23.block _ (by omega)).trans ((b12.block _ (by omega)).trans x1)))
  have y2 := (b40.block _ (by omega)).trans ((b34.block _ (by omega)).trans ((b23.block _ (by omega)).trans x2))
  have y3 := (b40.block _ (by omega)).trans ((b34.block _ (by omega)).trans x3)
  have y4 := (b40.block _ (by omega)).trans x4
  have P0 := Lib.hid (pick_ref (.slice (some ⟨w.heap.size + 2, 0, none⟩) 9 9) langs18 q0 W0.drew (Row.of_block (W := W0.drew) langs18 9 9 rfl y3) (by decide) (by decide))
  have P1 := Lib.hid (pick_ref (.slice (some ⟨w.heap.size + 3, 0, none⟩) 7 7) scripts18 q1 W0.drew (Row.of_block (W := W0.drew) scripts18 7 7 rfl y4) (by decide) (by decide))
  have P2 := Lib.hid (pick_ref (.slice (some ⟨w.heap.size + 4, 0, none⟩) 9 9) regions18 q2 W0.drew (Row.of_block (W := W0.drew) regions18 9 9 rfl x5) (by decide) (by decide))
  have HZ := Lib.hid (show W0.drew.heap[w.heap.size + 1]? = _ from y2)
  obtain ⟨c0, c1, c2⟩ := cells3T (show W0.drew.heap[w.heap.size]? = _ from y1)
  have HB := Lib.hid (show Below w.heap.size w W0.drew from Below.drew ((((b01.trans (b12.mono (by omega))).trans (b23.mono (by omega))).trans (b34.mono (by omega))).trans (b40.mono (by omega))))
  rw [← hW4, ← hW3, ← hW2, ← hW1] at hW0
  have HW0 := Lib.hid hW0
  clear hW0 hW1 hW2 hW3 hW4 z1 z2 z3 z4 b01 b12 b23 b34 b40 x1 x2 x3 x4 x5 y1 y2 y3 y4 W1 W2 W3 W4
  go_enter Try.func11, Try.ntmps11
  go_upto_region 4 with fail
  simp only [Nat.add_assoc, Nat.reduceAdd]
  have HW0' := HW0.out
  change ((((w.alloc _).alloc _).alloc (.cells #[.string ⟨#[101, 110]⟩, .string ⟨#[122, 104]⟩, .string ⟨#[115, 114]⟩, .string ⟨#[117, 110, 100]⟩, .string ⟨#[100, 101]⟩, .string ⟨#[120, 120]⟩, .string ⟨#[104, 101]⟩, .string ⟨#[114, 117]⟩, .string ⟨#[]⟩] _)).alloc (.cells #[.string ⟨#[]⟩, .string ⟨#[]⟩, .string ⟨#[108, 97, 116, 110]⟩, .string ⟨#[99, 121, 114, 108]⟩, .string ⟨#[104, 97, 110, 116]⟩, .string ⟨#[104, 97, 110, 115]⟩, .string ⟨#[122, 122, 122, 122]⟩] _)).alloc (.cells #[.string ⟨#[]⟩, .string ⟨#[]⟩, .string ⟨#[117, 115]⟩, .string ⟨#[116, 119]⟩, .string ⟨#[52, 49, 57]⟩, .string ⟨#[109, 101]⟩, .string ⟨#[103, 98]⟩, .string ⟨#[99, 110]⟩, .string ⟨#[122, 122]⟩] _) = W0 at HW0'
  rw [HW0']
  clear HW0 HW0'
  obtain ⟨n, hn⟩ : ∃ n, w.heap.size = n := ⟨_, rfl⟩
  obtain ⟨nl, hnl⟩ : ∃ n, w.heap.size + 2 = n := ⟨_, rfl⟩
  obtain ⟨ns, hns⟩ : ∃ n, w.heap.size + 3 = n := ⟨_, rfl⟩
  obtain ⟨nr, hnr⟩ : ∃ n, w.heap.size + 4 = n := ⟨_, rfl⟩
  rw [hnl] at P0 ⊢
  rw [hns] at P1 ⊢
  rw [hnr] at P2 ⊢
  have HN := Lib.hid hn
  rw [hn] at c0 c1 c2 HZ ⊢
  clear hn hnl hns hnr
  refine wp_region_late_drew (S := fun w' => w' = W0.drew) (k := 13) (by kernel_rfl) (rfl) (fun hHeld => ?_)
  refine late_shell (fun _ _ d _ _ h => by cases d <;> exact h) ?_
  intro KK hKp hfin
  refine wpAnyZ_take (i := 0) (v := .slice (some ⟨nl, 0, none⟩) 9 9) rfl (by kernel_rfl) (by kernel_rfl) (by kernel_rfl) (by kernel_rfl) (by kernel_rfl) (by kernel_rfl) (fun c a w h => hKp c a _ _ w h) (Or.inl ⟨by kernel_rfl, fun w hSw => by subst hSw; go_simp⟩) rfl ?_
  simp only [Act.put, List.getElem_toArray, List.getElem_cons_zero, List.setIfInBounds_toArray, List.set_cons_zero, List.set_cons_succ]
  refine wpAnyZ_take (i := 1) (v := .pointer (some ⟨n, 0, none⟩)) rfl (by kernel_rfl) (by kernel_rfl) (by kernel_rfl) (by kernel_rfl) (by kernel_rfl) (by kernel_rfl) (fun c a w h => hKp c a _ _ w h) (Or.inl ⟨by kernel_rfl, fun w hSw => by subst hSw; go_simp⟩) rfl ?_
  simp only [Act.put, List.getElem_toArray, List.getElem_cons_zero, List.getElem_cons_succ, List.setIfInBounds_toArray, List.set_cons_zero, List.set_cons_succ]
  refine wpAnyZ_take (i := 2) (v := .int .i64 q0) rfl (by kernel_rfl) (by kernel_rfl) (by kernel_rfl) (by kernel_rfl) (by kernel_rfl) (by kernel_rfl) (fun c a w h => hKp c a _ _ w h) (Or.inl ⟨by kernel_rfl, fun w hSw => by subst hSw; go_simp⟩) rfl ?_
  simp only [Act.put, List.getElem_toArray, List.getElem_cons_zero, List.getElem_cons_succ, List.setIfInBounds_toArray, List.set_cons_zero, List.set_cons_succ]
  refine wpAnyZ_take (i := 4) (v := .slice (some ⟨ns, 0, none⟩) 7 7) rfl (by kernel_rfl) (by kernel_rfl) (by kernel_rfl) (by kernel_rfl) (by kernel_rfl) (by kernel_rfl) (fun c a w h => hKp c a _ _ w h) (Or.inl ⟨by kernel_rfl, fun w hSw => by subst hSw; go_simp⟩) rfl ?_
  simp only [Act.put, List.getElem_toArray, List.getElem_cons_zero, List.getElem_cons_succ, List.setIfInBounds_toArray, List.set_cons_zero, List.set_cons_succ]
  refine wpAnyZ_take (i := 5) (v := .pointer (some ⟨n, 1, none⟩)) rfl (by kernel_rfl) (by kernel_rfl) (by kernel_rfl) (by kernel_rfl) (by kernel_rfl) (by kernel_rfl) (fun c a w h => hKp c a _ _ w h) (Or.inl ⟨by kernel_rfl, fun w hSw => by subst hSw; go_simp⟩) rfl ?_
  simp only [Act.put, List.getElem_toArray, List.getElem_cons_zero, List.getElem_cons_succ, List.setIfInBounds_toArray, List.set_cons_zero, List.set_cons_succ]
  refine wpAnyZ_take (i := 6) (v := .int .i64 q1) rfl (by kernel_rfl) (by kernel_rfl) (by kernel_rfl) (by kernel_rfl) (by kernel_rfl) (by kernel_rfl) (fun c a w h => hKp c a _ _ w h) (Or.inl ⟨by kernel_rfl, fun w hSw => by subst hSw; go_simp⟩) rfl ?_
  simp only [Act.put, List.getElem_toArray, List.getElem_cons_zero, List.getElem_cons_succ, List.setIfInBounds_toArray, List.set_cons_zero, List.set_cons_succ]
  refine wpAnyZ_take (i := 8) (v := .slice (some ⟨nr, 0, none⟩) 9 9) rfl (by kernel_rfl) (by kernel_rfl) (by kernel_rfl) (by kernel_rfl) (by kernel_rfl) (by kernel_rfl) (fun c a w h => hKp c a _ _ w h) (Or.inl ⟨by kernel_rfl, fun w hSw => by subst hSw; go_simp⟩) rfl ?_
  simp only [Act.put, List.getElem_toArray, List.getElem_cons_zero, List.getElem_cons_succ, List.setIfInBounds_toArray, List.set_cons_zero, List.set_cons_succ]
  refine wpAnyZ_take (i := 9) (v := .pointer (some ⟨n, 2, none⟩)) rfl (by kernel_rfl) (by kernel_rfl) (by kernel_rfl) (by kernel_rfl) (by kernel_rfl) (by kernel_rfl) (fun c a w h => hKp c a _ _ w h) (Or.inl ⟨by kernel_rfl, fun w hSw => by subst hSw; go_simp⟩) rfl ?_
  simp only [Act.put, List.getElem_toArray, List.getElem_cons_zero, List.getElem_cons_succ, List.setIfInBounds_toArray, List.set_cons_zero, List.set_cons_succ]
  refine wpAnyZ_take (i := 10) (v := .int .i64 q2) rfl (by kernel_rfl) (by kernel_rfl) (by kernel_rfl) (by kernel_rfl) (by kernel_rfl) (by kernel_rfl) (fun c a w h => hKp c a _ _ w h) (Or.inl ⟨by kernel_rfl, fun w hSw => by subst hSw; go_simp⟩) rfl ?_
  simp only [Act.put, List.getElem_toArray, List.getElem_cons_zero, List.getElem_cons_succ, List.setIfInBounds_toArray, List.set_cons_zero, List.set_cons_succ]
  refine wpAnyZ_ready (rs := [3]) (by kernel_rfl) (by simp) ?_
  refine AllReadyZ.cons rfl (fun Kx hKx => ?_) AllReadyZ.nil
  rw [if_pos (by kernel_rfl)]
  go_simp
  refine (P0.out).mono ?_
  rintro e w5 ⟨rfl, hw5⟩
  obtain rfl : W0.drew = w5 := hw5
  refine hKx.out _ _ (rfl) (fun hHeld => ?_)
  clear hKx Kx
  try simp only [Act.put, List.getElem_toArray, List.getElem_cons_zero, List.getElem_cons_succ, List.setIfInBounds_toArray, List.set_cons_zero, List.set_cons_succ]
  refine wpAnyZ_ready (rs := [7]) (by kernel_rfl) (by simp) ?_
  refine AllReadyZ.cons rfl (fun Kx hKx => ?_) AllReadyZ.nil
  rw [if_pos (by kernel_rfl)]
  go_simp
  refine (P1.out).mono ?_
  rintro e w5 ⟨rfl, hw5⟩
  obtain rfl : W0.drew = w5 := hw5
  refine hKx.out _ _ (rfl) (fun hHeld => ?_)
  clear hKx Kx
  try simp only [Act.put, List.getElem_toArray, List.getElem_cons_zero, List.getElem_cons_succ, List.setIfInBounds_toArray, List.set_cons_zero, List.set_cons_succ]
  refine wpAnyZ_ready (rs := [11]) (by kernel_rfl) (by simp) ?_
  refine AllReadyZ.cons rfl (fun Kx hKx => ?_) AllReadyZ.nil
  rw [if_pos (by kernel_rfl)]
  go_simp
  refine (P2.out).mono ?_
  rintro e w5 ⟨rfl, hw5⟩
  obtain rfl : W0.drew = w5 := hw5
  refine hKx.out _ _ (rfl) (fun hHeld => ?_)
  clear hKx Kx
  try simp only [Act.put, List.getElem_toArray, List.getElem_cons_zero, List.getElem_cons_succ, List.setIfInBounds_toArray, List.set_cons_zero, List.set_cons_succ]
  refine wpAnyZ_take (i := 12) (v := .agg #[.string (pickT langs18 q0), .slice none 0 0, .string (pickT scripts18 q1), .string (pickT regions18 q2), .slice none 0 0, .slice none 0 0, .slice none 0 0, .string ⟨#[]⟩]) rfl (by kernel_rfl) (by kernel_rfl) (by kernel_rfl) (by kernel_rfl) (by kernel_rfl) (by kernel_rfl) (fun c a w h => hKp c a _ _ w h) (Or.inl ⟨by kernel_rfl, fun w hSw => by subst hSw; go_simp⟩) rfl ?_
  simp only [Act.put, List.getElem_toArray, List.getElem_cons_zero, List.getElem_cons_succ, List.setIfInBounds_toArray, List.set_cons_zero, List.set_cons_succ]
  refine wpAnyZ_ready (rs := [13]) (by kernel_rfl) (by simp) ?_
  refine AllReadyZ.late rfl (by decide) (fun Kx hKx => ?_) AllReadyZ.nil
  rw [if_pos (by kernel_rfl)]
  refine wp_store_row _ _ _ rfl _ _ rfl rfl _ _ HZ.out sizeTagT rfl (by simp [Value.oneCell']) ?_
  refine hKx.out _ _ ?_
  clear hKx Kx
  try simp only [Act.put, List.getElem_toArray, List.getElem_cons_zero, List.getElem_cons_succ]
  refine wpAnyZ_done (by kernel_rfl) ?_ _
  refine hfin _ _ ?_
  clear hfin hKp KK
  go_wp2_with fail
  have HE := setRow_grownT W0.drew (n + 1) #[.string (pickT langs18 q0), .slice none 0 0, .string (pickT scripts18 q1), .string (pickT regions18 q2), .slice none 0 0, .slice none 0 0, .slice none 0 0, .string ⟨#[]⟩]
  refine bodyPost_ret (results_cell_row rfl _ _ (n + 1) 40 #[.string (pickT langs18 q0), .slice none 0 0, .string (pickT scripts18 q1), .string (pickT regions18 q2), .slice none 0 0, .slice none 0 0, .slice none 0 0, .string ⟨#[]⟩] (0, 0) _ rfl (setRow_heap _ _ _ _ _ _ HZ.out) Try.underlying40 rfl sizeTagT) rfl ?_
  exact ⟨rfl, HB.out.grown HE (by have := lt_blockT HZ.out; have := HN.out; omega) (fun r e => by cases e; have := HN.out; omega)⟩
end Go.Proofs.Ythjfcfhibdpbnaa
