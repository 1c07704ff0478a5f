/-
  Several texts in one: ALits, AData, AImg, AFind, ARef, AFinds:awake15_any, AFindLaw:held_shellA,rest15V,rest15V_lt,rest15_num,ret_int15,rest15_any. (Printed by wip/mergetpl.py.)
-/
import Derived.Test.YtbafmnafhaoggaaGreatDoorProg
import Derived.Test.YtbafmnafhaoggaaGreatDoorBMaths
import Derived.Great.BuildSlice
import Derived.Tactics
import Derived.KernelRfl
import Derived.WalkKit
import Derived.Lib.Hide
import Derived.Outline
import Derived.OwnWalk
import Derived.WalkSmall
import Derived.Carry
import Derived.OneCell
import Derived.Laws.Rows
import Derived.Laws.Tables
import Derived.Deep.CutRange
import Derived.RangeFuncRecord
import Derived.Deep.RegionHeld3
import Derived.IntWalk

namespace Go.Proofs.YtbafmnafhaoggaaGreatDoor
open Go

def litActs (P : Program) : List Oper → Act → Option Act
  | [], a => some a
  | o :: r, a =>
    match o.guard, o.op with
    | none, .build t parts => (P.built t (parts.map fun (i, x) => (i, a.eval x)).toList).bind fun cells => litActs P r (a.put o.dst (.agg cells))
    | none, .assign x => litActs P r (a.put o.dst (a.eval x))
    | _, _ => none
theorem wpList_lits {P : Program} {ops : Array Oper} {Q : Exit → Act → World → Prop} {w : World} : ∀ (l : List Oper) {rest : List Oper} {a a' : Act}, litActs P l a = some a' → wpList P ops Q rest a' w → wpList P ops Q (l ++ rest) a w
  | [], _, a, a', h, hK => by
    obtain rfl : a = a' := Option.some.inj h
    exact hK
  | o :: r, rest, a, a', h, hK => by
    unfold litActs at h
    split at h
    · rename_i t parts hg ho
      obtain ⟨cells, hc, h⟩ := Option.bind_eq_some_iff.1 h
      refine wpList_build hg t parts ho (by rw [hc]; rfl) ?_
      rw [hc]
      exact wpList_lits r h hK
    · rename_i x hg ho
      refine wpList_plain hg fun K hK' => ?_
      unfold Oper.wp
      simp only [execOp, ho]
      exact hK' _ _ (wpList_lits r h hK)
    · cases h
theorem wpList_litsN {P : Program} {ops : Array Oper} {Q : Exit → Act → World → Prop} {w : World} {l : List Oper} {a : Act} (n : Nat) (a' : Act) (h : litActs P (l.take n) a = some a') (hK : wpList P ops Q (l.drop n) a' w) : wpList P ops Q l a w := by
  have := wpList_lits (ops := ops) (Q := Q) (w := w) (l.take n) h hK
  rwa [List.take_append_drop] at this
def litRow (P : Program) (e : TypeId) (len : Nat) (vals : List (Nat × Value)) : Option (Array Value) :=
  (P.info? e).bind fun ie => ie.zero.bind fun z => if 0 < len * ie.size ∧ len * ie.size ≤ 2 ^ 24 then Instr.fill (fun i => some (i * ie.size, ie.size)) ((Array.range (len * ie.size)).map (z.cells[· % z.cells.size]!)) vals else none
theorem wpList_litRow {P : Program} {ops : Array Oper} {rest : List Oper} {o : Oper} {a a' : Act} {w : World} {Q : Exit → Act → World → Prop} (t e : TypeId) (len : Nat) (parts : Array (Nat × Operand)) (hg : o.guard = none) (ho : o.op = .buildSlice t len parts) (hu : P.underlying t = some (.slice e))
    (cells : Array Value) (N : Nat) (hN : w.heap.size = N) (hf : litRow P e len (parts.map fun (i, x) => (i, a.eval x)).toList = some cells) (ha : a.put o.dst (.slice (some ⟨N, 0, none⟩) len len) = a')
    (h : wpList P ops Q rest a' (w.alloc (.cells cells e))) : wpList P ops Q (o :: rest) a w := by
  subst hN ha
  obtain ⟨ie, hie, hf⟩ := Option.bind_eq_some_iff.1 hf
  obtain ⟨z, hz, hf⟩ := Option.bind_eq_some_iff.1 hf
  split at hf
  · rename_i hc
    exact wpList_buildSlice hg t e len parts ho cells ie z hu hie hz (by omega) (by omega) hf h
  · cases hf
end Go.Proofs.YtbafmnafhaoggaaGreatDoor

namespace Go.Proofs.YtbafmnafhaoggaaGreatDoor
open Go Go.RowKit

structure Ax where
  k : Int
  a : ByteArray
  b : ByteArray
  l : ByteArray
  s : ByteArray
  r : ByteArray
structure Lx where
  l : ByteArray
  s : ByteArray
  r : ByteArray
  tl : ByteArray
  ts : ByteArray
  tr : ByteArray
structure Rx where
  lv : Int
  co : Int
  ow : Bool
  d0 : ByteArray
  d1 : ByteArray
  d2 : ByteArray
  s0 : ByteArray
  s1 : ByteArray
  s2 : ByteArray
structure Mx where
  st : ByteArray
  rg : ByteArray
def axC (x : Ax) : List Value := [.int .i64 x.k, .string x.a, .string x.b, .string x.l, .string x.s, .string x.r]
def lxC (x : Lx) : List Value := [.string x.l, .string x.s, .string x.r, .string x.tl, .string x.ts, .string x.tr]
def rxC (x : Rx) : List Value := [.int .i64 x.lv, .int .i64 x.co, .bool x.ow, .string x.d0, .string x.d1, .string x.d2, .string x.s0, .string x.s1, .string x.s2]
def mxC (x : Mx) : List Value := [.string x.st, .string x.rg]
def als15 : List Ax := [⟨1, ⟨#[49, 56]⟩, ⟨#[]⟩, ⟨#[115, 102, 98]⟩, ⟨#[]⟩, ⟨#[]⟩⟩,
  ⟨1, ⟨#[49, 57]⟩, ⟨#[]⟩, ⟨#[118, 103, 116]⟩, ⟨#[]⟩, ⟨#[]⟩⟩,
  ⟨1, ⟨#[50, 48]⟩, ⟨#[]⟩, ⟨#[115, 103, 103]⟩, ⟨#[]⟩, ⟨#[]⟩⟩,
  ⟨1, ⟨#[48, 51]⟩, ⟨#[]⟩, ⟨#[97, 109, 105]⟩, ⟨#[]⟩, ⟨#[]⟩⟩,
  ⟨1, ⟨#[48, 56]⟩, ⟨#[]⟩, ⟨#[116, 108, 104]⟩, ⟨#[]⟩, ⟨#[]⟩⟩,
  ⟨1, ⟨#[48, 57]⟩, ⟨#[]⟩, ⟨#[108, 98]⟩, ⟨#[]⟩, ⟨#[]⟩⟩,
  ⟨1, ⟨#[49, 49]⟩, ⟨#[]⟩, ⟨#[110, 118]⟩, ⟨#[]⟩, ⟨#[]⟩⟩,
  ⟨1, ⟨#[49, 50]⟩, ⟨#[]⟩, ⟨#[112, 119, 110]⟩, ⟨#[]⟩, ⟨#[]⟩⟩,
  ⟨1, ⟨#[49, 51]⟩, ⟨#[]⟩, ⟨#[116, 97, 111]⟩, ⟨#[]⟩, ⟨#[]⟩⟩,
  ⟨1, ⟨#[49, 52]⟩, ⟨#[]⟩, ⟨#[116, 97, 121]⟩, ⟨#[]⟩, ⟨#[]⟩⟩,
  ⟨1, ⟨#[49, 53]⟩, ⟨#[]⟩, ⟨#[116, 115, 117]⟩, ⟨#[]⟩, ⟨#[]⟩⟩,
  ⟨1, ⟨#[49, 54]⟩, ⟨#[]⟩, ⟨#[110, 98]⟩, ⟨#[]⟩, ⟨#[]⟩⟩,
  ⟨1, ⟨#[49, 55]⟩, ⟨#[]⟩, ⟨#[110, 110]⟩, ⟨#[]⟩, ⟨#[]⟩⟩,
  ⟨1, ⟨#[48, 48]⟩, ⟨#[]⟩, ⟨#[106, 98, 111]⟩, ⟨#[]⟩, ⟨#[]⟩⟩,
  ⟨1, ⟨#[50, 50]⟩, ⟨#[]⟩, ⟨#[104, 97, 107]⟩, ⟨#[]⟩, ⟨#[]⟩⟩,
  ⟨1, ⟨#[50, 52]⟩, ⟨#[]⟩, ⟨#[110, 97, 110]⟩, ⟨#[]⟩, ⟨#[]⟩⟩,
  ⟨1, ⟨#[50, 53]⟩, ⟨#[]⟩, ⟨#[104, 115, 110]⟩, ⟨#[]⟩, ⟨#[]⟩⟩,
  ⟨1, ⟨#[48, 55]⟩, ⟨#[]⟩, ⟨#[104, 97, 107]⟩, ⟨#[]⟩, ⟨#[]⟩⟩,
  ⟨1, ⟨#[48, 52]⟩, ⟨#[]⟩, ⟨#[98, 110, 110]⟩, ⟨#[]⟩, ⟨#[]⟩⟩,
  ⟨2, ⟨#[115, 103, 110]⟩, ⟨#[98, 114]⟩, ⟨#[98, 122, 115]⟩, ⟨#[]⟩, ⟨#[]⟩⟩,
  ⟨2, ⟨#[115, 103, 110]⟩, ⟨#[117, 115]⟩, ⟨#[97, 115, 101]⟩, ⟨#[]⟩, ⟨#[]⟩⟩,
  ⟨2, ⟨#[115, 103, 110]⟩, ⟨#[103, 98]⟩, ⟨#[98, 102, 105]⟩, ⟨#[]⟩, ⟨#[]⟩⟩,
  ⟨2, ⟨#[115, 103, 110]⟩, ⟨#[100, 101]⟩, ⟨#[103, 115, 103]⟩, ⟨#[]⟩, ⟨#[]⟩⟩,
  ⟨3, ⟨#[105, 119]⟩, ⟨#[]⟩, ⟨#[104, 101]⟩, ⟨#[]⟩, ⟨#[]⟩⟩,
  ⟨3, ⟨#[105, 110]⟩, ⟨#[]⟩, ⟨#[105, 100]⟩, ⟨#[]⟩, ⟨#[]⟩⟩,
  ⟨3, ⟨#[106, 105]⟩, ⟨#[]⟩, ⟨#[121, 105]⟩, ⟨#[]⟩, ⟨#[]⟩⟩,
  ⟨3, ⟨#[109, 111]⟩, ⟨#[]⟩, ⟨#[114, 111]⟩, ⟨#[]⟩, ⟨#[]⟩⟩,
  ⟨3, ⟨#[110, 111]⟩, ⟨#[]⟩, ⟨#[110, 98]⟩, ⟨#[]⟩, ⟨#[]⟩⟩,
  ⟨3, ⟨#[116, 108]⟩, ⟨#[]⟩, ⟨#[102, 105, 108]⟩, ⟨#[]⟩, ⟨#[]⟩⟩,
  ⟨3, ⟨#[115, 104]⟩, ⟨#[]⟩, ⟨#[115, 114]⟩, ⟨#[108, 97, 116, 110]⟩, ⟨#[]⟩⟩,
  ⟨3, ⟨#[99, 109, 110]⟩, ⟨#[]⟩, ⟨#[122, 104]⟩, ⟨#[]⟩, ⟨#[]⟩⟩,
  ⟨3, ⟨#[99, 110, 114]⟩, ⟨#[]⟩, ⟨#[115, 114]⟩, ⟨#[]⟩, ⟨#[109, 101]⟩⟩,
  ⟨3, ⟨#[101, 110, 103]⟩, ⟨#[]⟩, ⟨#[101, 110]⟩, ⟨#[]⟩, ⟨#[]⟩⟩,
  ⟨3, ⟨#[100, 101, 117]⟩, ⟨#[]⟩, ⟨#[100, 101]⟩, ⟨#[]⟩, ⟨#[]⟩⟩,
  ⟨3, ⟨#[102, 114, 97]⟩, ⟨#[]⟩, ⟨#[102, 114]⟩, ⟨#[]⟩, ⟨#[]⟩⟩,
  ⟨4, ⟨#[113, 97, 97, 105]⟩, ⟨#[]⟩, ⟨#[]⟩, ⟨#[122, 105, 110, 104]⟩, ⟨#[]⟩⟩,
  ⟨5, ⟨#[100, 100]⟩, ⟨#[]⟩, ⟨#[]⟩, ⟨#[]⟩, ⟨#[100, 101]⟩⟩,
  ⟨5, ⟨#[115, 117]⟩, ⟨#[]⟩, ⟨#[]⟩, ⟨#[]⟩, ⟨#[114, 117]⟩⟩,
  ⟨5, ⟨#[98, 117]⟩, ⟨#[]⟩, ⟨#[]⟩, ⟨#[]⟩, ⟨#[109, 109]⟩⟩,
  ⟨5, ⟨#[102, 120]⟩, ⟨#[]⟩, ⟨#[]⟩, ⟨#[]⟩, ⟨#[102, 114]⟩⟩,
  ⟨5, ⟨#[56, 52, 48]⟩, ⟨#[]⟩, ⟨#[]⟩, ⟨#[]⟩, ⟨#[117, 115]⟩⟩,
  ⟨5, ⟨#[50, 55, 54]⟩, ⟨#[]⟩, ⟨#[]⟩, ⟨#[]⟩, ⟨#[100, 101]⟩⟩,
  ⟨5, ⟨#[56, 50, 54]⟩, ⟨#[]⟩, ⟨#[]⟩, ⟨#[]⟩, ⟨#[103, 98]⟩⟩,
  ⟨5, ⟨#[49, 53, 54]⟩, ⟨#[]⟩, ⟨#[]⟩, ⟨#[]⟩, ⟨#[99, 110]⟩⟩,
  ⟨5, ⟨#[116, 112]⟩, ⟨#[]⟩, ⟨#[]⟩, ⟨#[]⟩, ⟨#[116, 108]⟩⟩,
  ⟨5, ⟨#[122, 114]⟩, ⟨#[]⟩, ⟨#[]⟩, ⟨#[]⟩, ⟨#[99, 100]⟩⟩,
  ⟨5, ⟨#[121, 117]⟩, ⟨#[]⟩, ⟨#[]⟩, ⟨#[]⟩, ⟨#[114, 115]⟩⟩,
  ⟨5, ⟨#[99, 115]⟩, ⟨#[]⟩, ⟨#[]⟩, ⟨#[]⟩, ⟨#[114, 115]⟩⟩,
  ⟨6, ⟨#[104, 101, 112, 108, 111, 99]⟩, ⟨#[]⟩, ⟨#[97, 108, 97, 108, 99, 57, 55]⟩, ⟨#[]⟩, ⟨#[]⟩⟩,
  ⟨6, ⟨#[112, 111, 108, 121, 116, 111, 110, 105]⟩, ⟨#[]⟩, ⟨#[112, 111, 108, 121, 116, 111, 110]⟩, ⟨#[]⟩, ⟨#[]⟩⟩,
  ⟨7, ⟨#[99, 97]⟩, ⟨#[105, 115, 108, 97, 109, 105, 99, 99]⟩, ⟨#[99, 105, 118, 105, 108]⟩, ⟨#[]⟩, ⟨#[]⟩⟩,
  ⟨7, ⟨#[109, 115]⟩, ⟨#[105, 109, 112, 101, 114, 105, 97, 108]⟩, ⟨#[117, 107, 115, 121, 115, 116, 101, 109]⟩, ⟨#[]⟩, ⟨#[]⟩⟩,
  ⟨7, ⟨#[99, 111]⟩, ⟨#[100, 105, 99, 116, 105, 111, 110]⟩, ⟨#[100, 105, 99, 116]⟩, ⟨#[]⟩, ⟨#[]⟩⟩,
  ⟨7, ⟨#[107, 98]⟩, ⟨#[121, 101, 115]⟩, ⟨#[116, 114, 117, 101]⟩, ⟨#[]⟩, ⟨#[]⟩⟩]
def lks15 : List Lx := [⟨⟨#[101, 110]⟩, ⟨#[]⟩, ⟨#[]⟩, ⟨#[101, 110]⟩, ⟨#[108, 97, 116, 110]⟩, ⟨#[117, 115]⟩⟩,
  ⟨⟨#[101, 110]⟩, ⟨#[115, 104, 97, 119]⟩, ⟨#[]⟩, ⟨#[101, 110]⟩, ⟨#[115, 104, 97, 119]⟩, ⟨#[103, 98]⟩⟩,
  ⟨⟨#[117, 110, 100]⟩, ⟨#[]⟩, ⟨#[]⟩, ⟨#[101, 110]⟩, ⟨#[108, 97, 116, 110]⟩, ⟨#[117, 115]⟩⟩,
  ⟨⟨#[117, 110, 100]⟩, ⟨#[]⟩, ⟨#[52, 49, 57]⟩, ⟨#[101, 115]⟩, ⟨#[108, 97, 116, 110]⟩, ⟨#[52, 49, 57]⟩⟩,
  ⟨⟨#[100, 101]⟩, ⟨#[]⟩, ⟨#[]⟩, ⟨#[100, 101]⟩, ⟨#[108, 97, 116, 110]⟩, ⟨#[100, 101]⟩⟩,
  ⟨⟨#[102, 114]⟩, ⟨#[]⟩, ⟨#[]⟩, ⟨#[102, 114]⟩, ⟨#[108, 97, 116, 110]⟩, ⟨#[102, 114]⟩⟩,
  ⟨⟨#[101, 115]⟩, ⟨#[]⟩, ⟨#[]⟩, ⟨#[101, 115]⟩, ⟨#[108, 97, 116, 110]⟩, ⟨#[101, 115]⟩⟩,
  ⟨⟨#[122, 104]⟩, ⟨#[]⟩, ⟨#[]⟩, ⟨#[122, 104]⟩, ⟨#[104, 97, 110, 115]⟩, ⟨#[99, 110]⟩⟩,
  ⟨⟨#[122, 104]⟩, ⟨#[]⟩, ⟨#[116, 119]⟩, ⟨#[122, 104]⟩, ⟨#[104, 97, 110, 116]⟩, ⟨#[116, 119]⟩⟩,
  ⟨⟨#[122, 104]⟩, ⟨#[]⟩, ⟨#[104, 107]⟩, ⟨#[122, 104]⟩, ⟨#[104, 97, 110, 116]⟩, ⟨#[104, 107]⟩⟩,
  ⟨⟨#[122, 104]⟩, ⟨#[104, 97, 110, 116]⟩, ⟨#[]⟩, ⟨#[122, 104]⟩, ⟨#[104, 97, 110, 116]⟩, ⟨#[116, 119]⟩⟩,
  ⟨⟨#[117, 110, 100]⟩, ⟨#[104, 97, 110, 116]⟩, ⟨#[]⟩, ⟨#[122, 104]⟩, ⟨#[104, 97, 110, 116]⟩, ⟨#[116, 119]⟩⟩,
  ⟨⟨#[117, 110, 100]⟩, ⟨#[104, 97, 110, 115]⟩, ⟨#[]⟩, ⟨#[122, 104]⟩, ⟨#[104, 97, 110, 115]⟩, ⟨#[99, 110]⟩⟩,
  ⟨⟨#[115, 114]⟩, ⟨#[]⟩, ⟨#[]⟩, ⟨#[115, 114]⟩, ⟨#[99, 121, 114, 108]⟩, ⟨#[114, 115]⟩⟩,
  ⟨⟨#[115, 114]⟩, ⟨#[108, 97, 116, 110]⟩, ⟨#[]⟩, ⟨#[115, 114]⟩, ⟨#[108, 97, 116, 110]⟩, ⟨#[114, 115]⟩⟩,
  ⟨⟨#[115, 114]⟩, ⟨#[]⟩, ⟨#[109, 101]⟩, ⟨#[115, 114]⟩, ⟨#[108, 97, 116, 110]⟩, ⟨#[109, 101]⟩⟩,
  ⟨⟨#[117, 110, 100]⟩, ⟨#[99, 121, 114, 108]⟩, ⟨#[]⟩, ⟨#[114, 117]⟩, ⟨#[99, 121, 114, 108]⟩, ⟨#[114, 117]⟩⟩,
  ⟨⟨#[114, 117]⟩, ⟨#[]⟩, ⟨#[]⟩, ⟨#[114, 117]⟩, ⟨#[99, 121, 114, 108]⟩, ⟨#[114, 117]⟩⟩,
  ⟨⟨#[104, 101]⟩, ⟨#[]⟩, ⟨#[]⟩, ⟨#[104, 101]⟩, ⟨#[104, 101, 98, 114]⟩, ⟨#[105, 108]⟩⟩,
  ⟨⟨#[117, 110, 100]⟩, ⟨#[104, 101, 98, 114]⟩, ⟨#[]⟩, ⟨#[104, 101]⟩, ⟨#[104, 101, 98, 114]⟩, ⟨#[105, 108]⟩⟩,
  ⟨⟨#[97, 114]⟩, ⟨#[]⟩, ⟨#[]⟩, ⟨#[97, 114]⟩, ⟨#[97, 114, 97, 98]⟩, ⟨#[101, 103]⟩⟩,
  ⟨⟨#[117, 110, 100]⟩, ⟨#[97, 114, 97, 98]⟩, ⟨#[]⟩, ⟨#[97, 114]⟩, ⟨#[97, 114, 97, 98]⟩, ⟨#[101, 103]⟩⟩,
  ⟨⟨#[110, 98]⟩, ⟨#[]⟩, ⟨#[]⟩, ⟨#[110, 98]⟩, ⟨#[108, 97, 116, 110]⟩, ⟨#[110, 111]⟩⟩,
  ⟨⟨#[110, 110]⟩, ⟨#[]⟩, ⟨#[]⟩, ⟨#[110, 110]⟩, ⟨#[108, 97, 116, 110]⟩, ⟨#[110, 111]⟩⟩,
  ⟨⟨#[100, 97]⟩, ⟨#[]⟩, ⟨#[]⟩, ⟨#[100, 97]⟩, ⟨#[108, 97, 116, 110]⟩, ⟨#[100, 107]⟩⟩,
  ⟨⟨#[112, 116]⟩, ⟨#[]⟩, ⟨#[]⟩, ⟨#[112, 116]⟩, ⟨#[108, 97, 116, 110]⟩, ⟨#[98, 114]⟩⟩,
  ⟨⟨#[104, 105]⟩, ⟨#[]⟩, ⟨#[]⟩, ⟨#[104, 105]⟩, ⟨#[100, 101, 118, 97]⟩, ⟨#[105, 110]⟩⟩,
  ⟨⟨#[104, 105]⟩, ⟨#[108, 97, 116, 110]⟩, ⟨#[]⟩, ⟨#[104, 105]⟩, ⟨#[108, 97, 116, 110]⟩, ⟨#[105, 110]⟩⟩,
  ⟨⟨#[106, 97]⟩, ⟨#[]⟩, ⟨#[]⟩, ⟨#[106, 97]⟩, ⟨#[106, 112, 97, 110]⟩, ⟨#[106, 112]⟩⟩,
  ⟨⟨#[105, 100]⟩, ⟨#[]⟩, ⟨#[]⟩, ⟨#[105, 100]⟩, ⟨#[108, 97, 116, 110]⟩, ⟨#[105, 100]⟩⟩,
  ⟨⟨#[102, 105, 108]⟩, ⟨#[]⟩, ⟨#[]⟩, ⟨#[102, 105, 108]⟩, ⟨#[108, 97, 116, 110]⟩, ⟨#[112, 104]⟩⟩,
  ⟨⟨#[114, 111]⟩, ⟨#[]⟩, ⟨#[]⟩, ⟨#[114, 111]⟩, ⟨#[108, 97, 116, 110]⟩, ⟨#[114, 111]⟩⟩]
def rls15 : List Rx := [⟨1, 1, false, ⟨#[110, 98]⟩, ⟨#[]⟩, ⟨#[]⟩, ⟨#[110, 111]⟩, ⟨#[]⟩, ⟨#[]⟩⟩,
  ⟨1, 4, false, ⟨#[110, 98]⟩, ⟨#[]⟩, ⟨#[]⟩, ⟨#[100, 97]⟩, ⟨#[]⟩, ⟨#[]⟩⟩,
  ⟨1, 20, false, ⟨#[110, 110]⟩, ⟨#[]⟩, ⟨#[]⟩, ⟨#[110, 98]⟩, ⟨#[]⟩, ⟨#[]⟩⟩,
  ⟨1, 8, false, ⟨#[110, 110]⟩, ⟨#[]⟩, ⟨#[]⟩, ⟨#[100, 97]⟩, ⟨#[]⟩, ⟨#[]⟩⟩,
  ⟨1, 30, true, ⟨#[105, 100]⟩, ⟨#[]⟩, ⟨#[]⟩, ⟨#[109, 115]⟩, ⟨#[]⟩, ⟨#[]⟩⟩,
  ⟨1, 80, false, ⟨#[42]⟩, ⟨#[]⟩, ⟨#[]⟩, ⟨#[42]⟩, ⟨#[]⟩, ⟨#[]⟩⟩,
  ⟨2, 15, true, ⟨#[122, 104]⟩, ⟨#[104, 97, 110, 115]⟩, ⟨#[]⟩, ⟨#[122, 104]⟩, ⟨#[104, 97, 110, 116]⟩, ⟨#[]⟩⟩,
  ⟨2, 19, true, ⟨#[122, 104]⟩, ⟨#[104, 97, 110, 116]⟩, ⟨#[]⟩, ⟨#[122, 104]⟩, ⟨#[104, 97, 110, 115]⟩, ⟨#[]⟩⟩,
  ⟨2, 20, false, ⟨#[115, 114]⟩, ⟨#[108, 97, 116, 110]⟩, ⟨#[]⟩, ⟨#[115, 114]⟩, ⟨#[99, 121, 114, 108]⟩, ⟨#[]⟩⟩,
  ⟨2, 50, false, ⟨#[42]⟩, ⟨#[42]⟩, ⟨#[]⟩, ⟨#[42]⟩, ⟨#[42]⟩, ⟨#[]⟩⟩,
  ⟨3, 3, false, ⟨#[101, 110]⟩, ⟨#[42]⟩, ⟨#[36, 101, 110, 117, 115]⟩, ⟨#[101, 110]⟩, ⟨#[42]⟩, ⟨#[36, 101, 110, 117, 115]⟩⟩,
  ⟨3, 3, false, ⟨#[101, 110]⟩, ⟨#[42]⟩, ⟨#[33, 101, 110, 117, 115]⟩, ⟨#[101, 110]⟩, ⟨#[42]⟩, ⟨#[33, 101, 110, 117, 115]⟩⟩,
  ⟨3, 4, false, ⟨#[101, 115]⟩, ⟨#[42]⟩, ⟨#[36, 97, 109, 101, 114]⟩, ⟨#[101, 115]⟩, ⟨#[42]⟩, ⟨#[36, 97, 109, 101, 114]⟩⟩,
  ⟨3, 5, false, ⟨#[101, 115]⟩, ⟨#[42]⟩, ⟨#[33, 97, 109, 101, 114]⟩, ⟨#[101, 115]⟩, ⟨#[42]⟩, ⟨#[36, 97, 109, 101, 114]⟩⟩,
  ⟨3, 4, false, ⟨#[42]⟩, ⟨#[42]⟩, ⟨#[42]⟩, ⟨#[42]⟩, ⟨#[42]⟩, ⟨#[42]⟩⟩]
def mbs15 : List Mx := [⟨⟨#[97, 109, 101, 114]⟩, ⟨#[52, 49, 57]⟩⟩,
  ⟨⟨#[97, 109, 101, 114]⟩, ⟨#[97, 114]⟩⟩,
  ⟨⟨#[97, 109, 101, 114]⟩, ⟨#[109, 120]⟩⟩,
  ⟨⟨#[97, 109, 101, 114]⟩, ⟨#[117, 115]⟩⟩,
  ⟨⟨#[101, 110, 117, 115]⟩, ⟨#[117, 115]⟩⟩,
  ⟨⟨#[101, 110, 117, 115]⟩, ⟨#[112, 114]⟩⟩,
  ⟨⟨#[101, 110, 117, 115]⟩, ⟨#[103, 117]⟩⟩]
set_option maxRecDepth 100000 in
set_option maxHeartbeats 2000000 in
theorem aliases_15 (w : World) : Calls Tryz.prog 15 #[] w fun e w' => e = .returned (.slice (some ⟨w.heap.size, 0, none⟩) 54 54) ∧ w' = w.alloc (.cells (als15.flatMap axC).toArray 42) := by
  obtain ⟨N, hN⟩ : ∃ N, w.heap.size = N := ⟨_, rfl⟩
  rw [hN]
  go_enter Tryz.func15, Tryz.ntmps15
  go_upto_region 1 with fail
  refine wp_region_lit ?_
  refine wpList_litsN 54 (⟨(.slice none 0 0 :: ((als15.map fun x => Value.agg (axC x).toArray) ++ [undef])).toArray, []⟩) (by kernel_rfl) ?_
  simp only [List.drop_succ_cons, List.drop_zero]
  refine wpList_litRow 24 42 54 _ rfl rfl (by kernel_rfl) (als15.flatMap axC).toArray N hN (by kernel_rfl) (a' := ⟨(.slice none 0 0 :: ((als15.map fun x => Value.agg (axC x).toArray) ++ [.slice (some ⟨N, 0, none⟩) 54 54])).toArray, []⟩) (by kernel_rfl) ?_
  refine wpList_litsN 1 (⟨(.slice (some ⟨N, 0, none⟩) 54 54 :: ((als15.map fun x => Value.agg (axC x).toArray) ++ [.slice (some ⟨N, 0, none⟩) 54 54])).toArray, []⟩) (by kernel_rfl) ?_
  simp only [List.drop_succ_cons, List.drop_zero]
  refine wpList_nil ?_
  generalize (als15.map fun x => Value.agg (axC x).toArray) ++ [.slice (some ⟨N, 0, none⟩) 54 54] = rest
  go_wp2
  go_ret
  exact ⟨rfl, rfl⟩
set_option maxRecDepth 100000 in
set_option maxHeartbeats 2000000 in
theorem likelies_15 (w : World) : Calls Tryz.prog 16 #[] w fun e w' => e = .returned (.slice (some ⟨w.heap.size, 0, none⟩) 32 32) ∧ w' = w.alloc (.cells (lks15.flatMap lxC).toArray 75) := by
  obtain ⟨N, hN⟩ : ∃ N, w.heap.size = N := ⟨_, rfl⟩
  rw [hN]
  go_enter Tryz.func16, Tryz.ntmps16
  go_upto_region 1 with fail
  refine wp_region_lit ?_
  refine wpList_litsN 32 (⟨(.slice none 0 0 :: ((lks15.map fun x => Value.agg (lxC x).toArray) ++ [undef])).toArray, []⟩) (by kernel_rfl) ?_
  simp only [List.drop_succ_cons, List.drop_zero]
  refine wpList_litRow 25 75 32 _ rfl rfl (by kernel_rfl) (lks15.flatMap lxC).toArray N hN (by kernel_rfl) (a' := ⟨(.slice none 0 0 :: ((lks15.map fun x => Value.agg (lxC x).toArray) ++ [.slice (some ⟨N, 0, none⟩) 32 32])).toArray, []⟩) (by kernel_rfl) ?_
  refine wpList_litsN 1 (⟨(.slice (some ⟨N, 0, none⟩) 32 32 :: ((lks15.map fun x => Value.agg (lxC x).toArray) ++ [.slice (some ⟨N, 0, none⟩) 32 32])).toArray, []⟩) (by kernel_rfl) ?_
  simp only [List.drop_succ_cons, List.drop_zero]
  refine wpList_nil ?_
  generalize (lks15.map fun x => Value.agg (lxC x).toArray) ++ [.slice (some ⟨N, 0, none⟩) 32 32] = rest
  go_wp2
  go_ret
  exact ⟨rfl, rfl⟩
set_option maxRecDepth 100000 in
set_option maxHeartbeats 2000000 in
theorem rules_15 (w : World) : Calls Tryz.prog 17 #[] w fun e w' => e = .returned (.slice (some ⟨w.heap.size, 0, none⟩) 15 15) ∧ w' = w.alloc (.cells (rls15.flatMap rxC).toArray 79) := by
  obtain ⟨N, hN⟩ : ∃ N, w.heap.size = N := ⟨_, rfl⟩
  rw [hN]
  go_enter Tryz.func17, Tryz.ntmps17
  go_upto_region 1 with fail
  refine wp_region_lit ?_
  refine wpList_litsN 45 (⟨(.slice none 0 0 :: ((rls15.flatMap fun x => [Value.agg #[.string x.d0, .string x.d1, .string x.d2], Value.agg #[.string x.s0, .string x.s1, .string x.s2], Value.agg (rxC x).toArray]) ++ [undef])).toArray, []⟩) (by kernel_rfl) ?_
  simp only [List.drop_succ_cons, List.drop_zero]
  refine wpList_litRow 26 79 15 _ rfl rfl (by kernel_rfl) (rls15.flatMap rxC).toArray N hN (by kernel_rfl) (a' := ⟨(.slice none 0 0 :: ((rls15.flatMap fun x => [Value.agg #[.string x.d0, .string x.d1, .string x.d2], Value.agg #[.string x.s0, .string x.s1, .string x.s2], Value.agg (rxC x).toArray]) ++ [.slice (some ⟨N, 0, none⟩) 15 15])).toArray, []⟩) (by kernel_rfl) ?_
  refine wpList_litsN 1 (⟨(.slice (some ⟨N, 0, none⟩) 15 15 :: ((rls15.flatMap fun x => [Value.agg #[.string x.d0, .string x.d1, .string x.d2], Value.agg #[.string x.s0, .string x.s1, .string x.s2], Value.agg (rxC x).toArray]) ++ [.slice (some ⟨N, 0, none⟩) 15 15])).toArray, []⟩) (by kernel_rfl) ?_
  simp only [List.drop_succ_cons, List.drop_zero]
  refine wpList_nil ?_
  generalize (rls15.flatMap fun x => [Value.agg #[.string x.d0, .string x.d1, .string x.d2], Value.agg #[.string x.s0, .string x.s1, .string x.s2], Value.agg (rxC x).toArray]) ++ [.slice (some ⟨N, 0, none⟩) 15 15] = rest
  go_wp2
  go_ret
  exact ⟨rfl, rfl⟩
set_option maxRecDepth 100000 in
set_option maxHeartbeats 2000000 in
theorem members_15 (w : World) : Calls Tryz.prog 18 #[] w fun e w' => e = .returned (.slice (some ⟨w.heap.size, 0, none⟩) 7 7) ∧ w' = w.alloc (.cells (mbs15.flatMap mxC).toArray 82) := by
  obtain ⟨N, hN⟩ : ∃ N, w.heap.size = N := ⟨_, rfl⟩
  rw [hN]
  go_enter Tryz.func18, Tryz.ntmps18
  go_upto_region 1 with fail
  refine wp_region_lit ?_
  refine wpList_litsN 7 (⟨(.slice none 0 0 :: ((mbs15.map fun x => Value.agg (mxC x).toArray) ++ [undef])).toArray, []⟩) (by kernel_rfl) ?_
  simp only [List.drop_succ_cons, List.drop_zero]
  refine wpList_litRow 27 82 7 _ rfl rfl (by kernel_rfl) (mbs15.flatMap mxC).toArray N hN (by kernel_rfl) (a' := ⟨(.slice none 0 0 :: ((mbs15.map fun x => Value.agg (mxC x).toArray) ++ [.slice (some ⟨N, 0, none⟩) 7 7])).toArray, []⟩) (by kernel_rfl) ?_
  refine wpList_litsN 1 (⟨(.slice (some ⟨N, 0, none⟩) 7 7 :: ((mbs15.map fun x => Value.agg (mxC x).toArray) ++ [.slice (some ⟨N, 0, none⟩) 7 7])).toArray, []⟩) (by kernel_rfl) ?_
  simp only [List.drop_succ_cons, List.drop_zero]
  refine wpList_nil ?_
  generalize (mbs15.map fun x => Value.agg (mxC x).toArray) ++ [.slice (some ⟨N, 0, none⟩) 7 7] = rest
  go_wp2
  go_ret
  exact ⟨rfl, rfl⟩
end Go.Proofs.YtbafmnafhaoggaaGreatDoor

namespace Go.Proofs.YtbafmnafhaoggaaGreatDoor
open Go Go.RowKit

/-- A row of literals, new, in memory. -/
def Row15 (w : World) (n : Nat) (cells : List Value) (t : TypeId) (e : Ending) (w' : World) : Prop := ∃ g, e = .returned (.slice (some ⟨g, 0, none⟩) n n) ∧ w.heap.size ≤ g ∧ w'.heap[g]? = some (.cells cells.toArray t (0, 0)) ∧ Below w.heap.size w w'
theorem Row15.of {w w' : World} {n : Nat} {cells : List Value} {t : TypeId} {e : Ending} (h : e = .returned (.slice (some ⟨w.heap.size, 0, none⟩) n n) ∧ w' = w.alloc (.cells cells.toArray t)) : Row15 w n cells t e w' := by
  obtain ⟨rfl, rfl⟩ := h
  exact ⟨_, rfl, Nat.le_refl _, World.alloc_heap_new w _, (Below.refl _ w).alloc (Nat.le_refl _) _⟩
/-- The image of layer 15 in memory: its four rows, one behind the other. -/
structure Im15 (W : World) (b g1 g2 g3 g4 : Nat) : Prop where
  a : W.heap[g1]? = some (.cells (als15.flatMap axC).toArray 42 (0, 0))
  l : W.heap[g2]? = some (.cells (lks15.flatMap lxC).toArray 75 (0, 0))
  r : W.heap[g3]? = some (.cells (rls15.flatMap rxC).toArray 79 (0, 0))
  m : W.heap[g4]? = some (.cells (mbs15.flatMap mxC).toArray 82 (0, 0))
  o1 : b ≤ g1
  o2 : g1 < g2
  o3 : g2 < g3
  o4 : g3 < g4
theorem Im15.below {W W' : World} {b g1 g2 g3 g4 : Nat} (h : Im15 W b g1 g2 g3 g4) (hb : Below W.heap.size W W') : Im15 W' b g1 g2 g3 g4 :=
  ⟨(hb.block _ (lt_of_block h.a)).trans h.a, (hb.block _ (lt_of_block h.l)).trans h.l, (hb.block _ (lt_of_block h.r)).trans h.r, (hb.block _ (lt_of_block h.m)).trans h.m, h.o1, h.o2, h.o3, h.o4⟩
def Image15 (w : World) (e : Ending) (w' : World) : Prop := ∃ g1 g2 g3 g4, e = .returned (.agg #[.slice (some ⟨g1, 0, none⟩) 54 54, .slice (some ⟨g2, 0, none⟩) 32 32, .slice (some ⟨g3, 0, none⟩) 15 15, .slice (some ⟨g4, 0, none⟩) 7 7, .int .i64 40, .int .i64 5]) ∧ Im15 w' w.heap.size g1 g2 g3 g4 ∧ Below w.heap.size w w'
theorem sizeIm15 : (Tryz.prog.info? 29).map (·.size) = some 6 := by kernel_rfl
theorem belowA_setRow {n g : Nat} {W W' : World} (h : Below n W W') (hg : n ≤ g) (cs : Array Value) : Below n W (W'.setRow g cs) :=
  h.trans ⟨rfl, rfl, rfl, by simp [World.setRow], fun k hk => setRow_other W' g k cs (by omega)⟩
set_option maxRecDepth 100000 in
set_option maxHeartbeats 2000000 in
theorem image_15 (w : World) : Calls Tryz.prog 8 #[] w (Image15 w) := by
  obtain ⟨W0, hW0⟩ : ∃ W0, w.alloc (.cells #[.slice none 0 0, .slice none 0 0, .slice none 0 0, .slice none 0 0, .int .i64 0, .int .i64 0] 29) = W0 := ⟨_, rfl⟩
  have hb0 : Below w.heap.size w W0 := by rw [← hW0]; exact (Below.refl _ w).alloc (Nat.le_refl _) _
  have hA0 : W0.heap[w.heap.size]? = some (.cells #[.slice none 0 0, .slice none 0 0, .slice none 0 0, .slice none 0 0, .int .i64 0, .int .i64 0] 29 (0, 0)) := by rw [← hW0]; exact World.alloc_heap_new w _
  have HA := Lib.hid (fun w' => (aliases_15 w').mono (R' := Row15 w' 54 (als15.flatMap axC) 42) fun _ _ h => Row15.of h)
  have HL := Lib.hid (fun w' => (likelies_15 w').mono (R' := Row15 w' 32 (lks15.flatMap lxC) 75) fun _ _ h => Row15.of h)
  have HR := Lib.hid (fun w' => (rules_15 w').mono (R' := Row15 w' 15 (rls15.flatMap rxC) 79) fun _ _ h => Row15.of h)
  have HM := Lib.hid (fun w' => (members_15 w').mono (R' := Row15 w' 7 (mbs15.flatMap mxC) 82) fun _ _ h => Row15.of h)
  have HW0 := Lib.hid hW0
  clear hW0
  unfold Image15
  have HB0 := Lib.hid hb0
  have HA0 := Lib.hid hA0
  clear hb0 hA0
  go_enter Tryz.func8, Tryz.ntmps8
  go_upto_region 1 with fail
  try rw [HW0.out]
  go_wp2_with (first
    | (go_at_call 15; (with_reducible refine (HA.out _).mono ?_); rintro e w1 ⟨g1, rfl, hg1, hc1, hb1⟩; have H1 := Lib.hid (And.intro hg1 (And.intro hc1 hb1)); clear hg1 hc1 hb1)
    | (go_at_call 16; (with_reducible refine (HL.out _).mono ?_); rintro e w2 ⟨g2, rfl, hg2, hc2, hb2⟩; have H2 := Lib.hid (And.intro hg2 (And.intro hc2 hb2)); clear hg2 hc2 hb2)
    | (go_at_call 17; (with_reducible refine (HR.out _).mono ?_); rintro e w3 ⟨g3, rfl, hg3, hc3, hb3⟩; have H3 := Lib.hid (And.intro hg3 (And.intro hc3 hb3)); clear hg3 hc3 hb3)
    | (go_at_call 18; (with_reducible refine (HM.out _).mono ?_); rintro e w4 ⟨g4, rfl, hg4, hc4, hb4⟩; obtain ⟨hg1, hc1, hb1⟩ := H1.out; obtain ⟨hg2, hc2, hb2⟩ := H2.out; obtain ⟨hg3, hc3, hb3⟩ := H3.out; have hb12 := hb1.trans (hb2.mono hb1.size); have hb13 := hb12.trans (hb3.mono hb12.size); have hb14 := hb13.trans (hb4.mono hb13.size); have hI := (hb14.block _ (lt_of_block HA0.out)).trans HA0.out; have q1 := lt_of_block hc1; have q2 := lt_of_block hc2; have q3 := lt_of_block hc3; have q0 := lt_of_block HA0.out; have HIM := Lib.hid (show Im15 w4 w.heap.size g1 g2 g3 g4 from ⟨((hb2.trans ((hb3.mono hb2.size).trans (hb4.mono (Nat.le_trans hb2.size hb3.size)))).block _ q1).trans hc1, ((hb3.trans (hb4.mono hb3.size)).block _ q2).trans hc2, (hb4.block _ q3).trans hc3, hc4, by omega, by omega, by omega, by omega⟩); have HBE := Lib.hid (HB0.out.trans (hb14.mono HB0.out.size)); have HNE := Lib.hid (show w.heap.size < g1 by omega); have HI := Lib.hid hI; clear hg1 hc1 hb1 hg2 hc2 hb2 hg3 hc3 hb3 hg4 hc4 hb4 hb12 hb13 hb14 H1 H2 H3 q0 q1 q2 q3 hI)
    | (refine wpList_store_row rfl _ _ _ rfl _ _ rfl rfl _ _ HI.out sizeIm15 rfl (by simp [Value.oneCell']) ?_))
  have hM := HIM.out
  have hne := HNE.out
  refine bodyPost_ret (results_cell_row rfl _ _ w.heap.size 29 #[.slice (some ⟨g1, 0, none⟩) 54 54, .slice (some ⟨g2, 0, none⟩) 32 32, .slice (some ⟨g3, 0, none⟩) 15 15, .slice (some ⟨g4, 0, none⟩) 7 7, .int .i64 40, .int .i64 5] (0, 0) _ rfl (setRow_heap _ _ _ _ _ _ HI.out) Tryz.underlying29 rfl sizeIm15) rfl ?_
  refine ⟨g1, g2, g3, g4, rfl, ⟨?_, ?_, ?_, ?_, hM.o1, hM.o2, hM.o3, hM.o4⟩, belowA_setRow HBE.out (Nat.le_refl _) _⟩
  · rw [setRow_other _ _ _ _ (by omega)]; exact hM.a
  · rw [setRow_other _ _ _ _ (by have := hM.o2; omega)]; exact hM.l
  · rw [setRow_other _ _ _ _ (by have := hM.o2; have := hM.o3; omega)]; exact hM.r
  · rw [setRow_other _ _ _ _ (by have := hM.o2; have := hM.o3; have := hM.o4; omega)]; exact hM.m
end Go.Proofs.YtbafmnafhaoggaaGreatDoor

namespace Go.Proofs.YtbafmnafhaoggaaGreatDoor
open Go Go.RowKit

def pA (k : Int) (a b : ByteArray) (x : Ax) : Bool := (x.k == k) && ((x.a.toList == a.toList) && (x.b.toList == b.toList))
def zeroAx : Ax := ⟨0, ⟨#[]⟩, ⟨#[]⟩, ⟨#[]⟩, ⟨#[]⟩, ⟨#[]⟩⟩
theorem flatA {α : Type} {f : α → List Value} {sz : Nat} (hs : ∀ x, (f x).length = sz) : ∀ {L : List α} {k j : Nat} {x : α} {v : Value}, L[k]? = some x → (f x)[j]? = some v → (L.flatMap f)[k * sz + j]? = some v
  | [], k, j, x, v, h, _ => by simp at h
  | y :: r, 0, j, x, v, h, hv => by
    simp at h; subst h
    rw [Nat.zero_mul, Nat.zero_add, List.flatMap_cons, List.getElem?_append_left (List.getElem?_eq_some_iff.1 hv).1]
    exact hv
  | y :: r, k + 1, j, x, v, h, hv => by
    rw [List.flatMap_cons, List.getElem?_append_right (by rw [hs, Nat.succ_mul]; omega)]
    have e : (k + 1) * sz + j - (f y).length = k * sz + j := by rw [hs, Nat.succ_mul]; omega
    rw [e]
    exact flatA hs (by simpa using h) hv
theorem cellA {W : World} {g : Nat} {cs : List Value} {t : TypeId} (h : W.heap[g]? = some (.cells cs.toArray t (0, 0))) {k : Nat} {v : Value} (hv : cs[k]? = some v) : W.cell? ⟨g, k, none⟩ = some v := by
  rw [Go.cell_of_row W g k _ t (0, 0) h]
  simpa using hv
theorem results_cell_tmpA {P : Program} {fn : Func} {p q : Tmp} {ty : TypeId} (h : fn.results = #[.cell p ty, .tmp q]) (tmps : Array Value) (w : World) (g : Nat) (t : TypeId) (cs : Array Value) (fr : Nat × Nat) (d : TypeDesc) (v : Value)
    (hp : tmps.getD p undef = .pointer (some ⟨g, 0, none⟩)) (hv : tmps.getD q undef = v) (hg : w.heap[g]? = some (.cells cs t fr))
    (hu : P.underlying ty = some d) (hd : (match d with | .struct _ | .array _ _ => true | _ => false) = true) (hi : (P.info? ty).map (·.size) = some cs.size) :
    (results fn tmps).run P w = .ok (.tuple #[.agg cs, v]) w := by
  have hp' : tmps[p]?.getD undef = .pointer (some ⟨g, 0, none⟩) := by simpa using hp
  have hv' : tmps[q]?.getD undef = v := by simpa using hv
  simp [results, h, hp', hv', asAddr, run_loadVar_row w g t ty cs fr d hg hu hd hi]
theorem oneA {W : World} {g : Nat} {v : Value} {t : TypeId} (h : W.heap[g]? = some (.cells #[v] t (0, 0))) : W.cell? ⟨g, 0, none⟩ = some v := by
  rw [Go.cell_of_row W g 0 _ t (0, 0) h]; rfl
def axCV (x : Ax) : Value := .agg #[.int .i64 x.k, .string x.a, .string x.b, .string x.l, .string x.s, .string x.r]
theorem sizeAx : (Tryz.prog.info? 42).map (·.size) = some 6 := by kernel_rfl
set_option maxRecDepth 100000 in
set_option maxHeartbeats 2000000 in
theorem asksA (x : Ax) (k : Int) (a b : ByteArray) (b1 b2 b3 : Nat) (w : World) (h1 : w.heap[b1]? = some (.cells #[.int .i64 k] 3 (0, 0))) (h2 : w.heap[b2]? = some (.cells #[.string a] 9 (0, 0))) (h3 : w.heap[b3]? = some (.cells #[.string b] 9 (0, 0))) :
    Calls Tryz.prog 24 #[.agg #[.int .i64 x.k, .string x.a, .string x.b, .string x.l, .string x.s, .string x.r], .pointer (some ⟨b1, 0, none⟩), .pointer (some ⟨b2, 0, none⟩), .pointer (some ⟨b3, 0, none⟩)] w fun e w' => e = .returned (.bool (pA k a b x)) ∧ Below w.heap.size w w' := by
  obtain ⟨z, hz⟩ : ∃ z, pA k a b x = z := ⟨_, rfl⟩
  rw [hz]
  have hB := (Below.refl w.heap.size w).alloc (Nat.le_refl _) (.cells #[.int .i64 x.k, .string x.a, .string x.b, .string x.l, .string x.s, .string x.r] 42)
  have c1 := (hB.cell (p := ⟨b1, 0, none⟩) (lt_of_block h1)).trans (oneA h1)
  have c2 := (hB.cell (p := ⟨b2, 0, none⟩) (lt_of_block h2)).trans (oneA h2)
  have c3 := (hB.cell (p := ⟨b3, 0, none⟩) (lt_of_block h3)).trans (oneA h3)
  clear h1 h2 h3
  unfold pA at hz
  cases e1 : (x.k == k) <;> cases e2 : (x.a.toList == a.toList) <;> cases e3 : (x.b.toList == b.toList) <;> (rw [e1, e2, e3] at hz; obtain rfl : _ = z := hz) <;>
    (go_enter Tryz.func24, Tryz.ntmps24
     go_wp2
     go_ret
     exact ⟨rfl, by assumption⟩)
set_option maxRecDepth 100000 in
set_option maxHeartbeats 2000000 in
theorem foundA (L : List Ax) (g : Nat) (k : Int) (a b : ByteArray) (b1 b2 b3 : Nat) (w : World) (hl : L.length ≤ 1000) (hg : w.heap[g]? = some (.cells (L.flatMap axC).toArray 42 (0, 0))) (h1 : w.heap[b1]? = some (.cells #[.int .i64 k] 3 (0, 0))) (h2 : w.heap[b2]? = some (.cells #[.string a] 9 (0, 0))) (h3 : w.heap[b3]? = some (.cells #[.string b] 9 (0, 0))) :
    Calls Tryz.prog 23 #[.slice (some ⟨g, 0, none⟩) L.length L.length, .func (.func 24) #[] #[.pointer (some ⟨b1, 0, none⟩), .pointer (some ⟨b2, 0, none⟩), .pointer (some ⟨b3, 0, none⟩)]] w fun e w' => e = .returned (.tuple #[axCV ((L.find? (pA k a b)).getD zeroAx), .bool (L.find? (pA k a b)).isSome]) ∧ Below w.heap.size w w' := by
  obtain ⟨W1, hW1⟩ : ∃ W1, w.alloc (.cells #[.int .i64 0, .string ⟨#[]⟩, .string ⟨#[]⟩, .string ⟨#[]⟩, .string ⟨#[]⟩, .string ⟨#[]⟩] 42) = W1 := ⟨_, rfl⟩
  have hb1 : Below w.heap.size w W1 := by rw [← hW1]; exact (Below.refl _ w).alloc (Nat.le_refl _) _
  have hM : W1.heap[w.heap.size]? = some (.cells #[.int .i64 0, .string ⟨#[]⟩, .string ⟨#[]⟩, .string ⟨#[]⟩, .string ⟨#[]⟩, .string ⟨#[]⟩] 42 (0, 0)) := by rw [← hW1]; exact World.alloc_heap_new w _
  have HA := Lib.hid (fun x w' (h : Below W1.heap.size W1 w') => (asksA x k a b b1 b2 b3 w' (((hb1.trans (h.mono hb1.size)).block _ (lt_of_block h1)).trans h1) (((hb1.trans (h.mono hb1.size)).block _ (lt_of_block h2)).trans h2) (((hb1.trans (h.mono hb1.size)).block _ (lt_of_block h3)).trans h3)).mono (R' := fun e w'' => e = .returned (.bool (pA k a b x)) ∧ Below W1.heap.size W1 w'' ∧ Below w'.heap.size w' w'') fun e w'' ⟨p, q⟩ => ⟨p, h.trans (q.mono h.size), q⟩)
  have HC := Lib.hid (fun w' (h : Below W1.heap.size W1 w') k x (hx : L[k]? = some x) j v (hv : (axC x)[j]? = some v) => cellA (((hb1.trans (h.mono hb1.size)).block _ (lt_of_block hg)).trans hg) (flatA (sz := 6) (fun _ => rfl) hx hv))
  have HM := Lib.hid (fun w' (h : Below W1.heap.size W1 w') => (h.block _ (lt_of_block hM)).trans hM)
  have HB1 := Lib.hid hb1
  generalize pA k a b = p at *
  have HW1 := Lib.hid hW1
  clear hW1 hb1 hM hg h1 h2 h3
  go_enter Tryz.func23, Tryz.ntmps23
  go_upto_region 1 with fail
  try rw [HW1.out]
  go_wp2
  go_loopw [11] (fun i wr => ∃ k : Nat, k ≤ L.length ∧ i = .int .i64 (k : Int) ∧ (L.take k).find? p = none ∧ Below W1.heap.size W1 wr) (fun i _ => L.length - (intOf i).toNat)
  case atStart => exact ⟨0, Nat.zero_le _, rfl, rfl, Below.refl _ _⟩
  case round =>
    obtain ⟨k, hk, rfl, hn, hR⟩ := hrel
    have HN := Lib.hid hn
    clear hn
    by_cases hlt : k < L.length
    · have hlt' : (k : Int) < (L.length : Int) := by omega
      have hk0 : (0 : Int) ≤ (k : Int) := by omega
      obtain ⟨x, hx⟩ : ∃ x, L[k]? = some x := ⟨_, List.getElem?_eq_getElem hlt⟩
      have c0 : wr.cell? ⟨g, k * 6, none⟩ = some (.int .i64 x.k) := HC.out _ hR k x hx 0 _ rfl
      have c1 : wr.cell? ⟨g, k * 6 + 1, none⟩ = some (.string x.a) := HC.out _ hR k x hx 1 _ rfl
      have c2 : wr.cell? ⟨g, k * 6 + 2, none⟩ = some (.string x.b) := HC.out _ hR k x hx 2 _ rfl
      have c3 : wr.cell? ⟨g, k * 6 + 3, none⟩ = some (.string x.l) := HC.out _ hR k x hx 3 _ rfl
      have c4 : wr.cell? ⟨g, k * 6 + 4, none⟩ = some (.string x.s) := HC.out _ hR k x hx 4 _ rfl
      have c5 : wr.cell? ⟨g, k * 6 + 5, none⟩ = some (.string x.r) := HC.out _ hR k x hx 5 _ rfl
      have HT := Lib.hid (show (L.take (k + 1)).find? p = if p x then some x else none by
        rw [List.take_add_one, hx, List.find?_append, HN.out]
        cases hp : p x <;> simp [hp])
      have HF := Lib.hid (show p x = true → L.find? p = some x from fun h => by
        have e := HT.out
        rw [if_pos h] at e
        rw [← List.take_append_drop (k + 1) L, List.find?_append, e]; rfl)
      have hRa := hR.alloc hR.size (.cells #[.int .i64 x.k, .string x.a, .string x.b, .string x.l, .string x.s, .string x.r] 42)
      have HAX := Lib.hid (HA.out x _ hRa)
      cases hp : p x with
      | false =>
        rw [hp] at HAX HT
        clear HF hx hp HC HA
        go_wp2_with (go_at_call 24; (with_reducible refine HAX.out.mono ?_); rintro e w5 ⟨rfl, hb5, hq5⟩)
        go_roundw
        case rel => exact ⟨k + 1, by omega, by go_num, by rw [HT.out]; rfl, by assumption⟩
        case measure => simp [intOf]; omega
      | true =>
        rw [hp] at HAX HF
        have HFX := Lib.hid (HF.out rfl)
        clear HT hx hp HC HA HF
        go_wp2_with (first
          | (go_at_call 24; (with_reducible refine HAX.out.mono ?_); rintro e w5 ⟨rfl, hb5, hq5⟩; have HM5 := Lib.hid (HM.out _ hb5); have hX5 := hb5; have HX7 := Lib.hid ((hq5.block _ (by simp)).trans (World.alloc_heap_new wr _)))
          | (refine wpList_load_row rfl _ _ rfl _ rfl _ _ _ _ HX7.out Tryz.underlying42 rfl sizeAx ?_)
          | (refine wpList_store_row rfl _ _ _ rfl _ _ rfl rfl _ _ HM5.out sizeAx rfl (by simp [Value.oneCell']) ?_))
        refine bodyPost_ret (results_cell_tmpA rfl _ _ w.heap.size 42 #[.int .i64 x.k, .string x.a, .string x.b, .string x.l, .string x.s, .string x.r] (0, 0) _ _ rfl rfl (setRow_heap _ _ _ _ _ _ HM5.out) Tryz.underlying42 rfl sizeAx) rfl ?_
        rw [HFX.out]
        exact ⟨rfl, belowA_setRow (HB1.out.trans (hX5.mono HB1.out.size)) (Nat.le_refl _) _⟩
    · obtain rfl : k = L.length := by omega
      have hlt' : ¬ (L.length : Int) < (L.length : Int) := by omega
      have HF := Lib.hid (show L.find? p = none by rw [← List.take_length (l := L)]; exact HN.out)
      have HM5 := Lib.hid ((Below.heap_alloc wr (.cells #[.int .i64 0, .string ⟨#[]⟩, .string ⟨#[]⟩, .string ⟨#[]⟩, .string ⟨#[]⟩, .string ⟨#[]⟩] 42) _ (Nat.lt_of_lt_of_le (lt_of_block (HM.out _ (Below.refl _ _))) hR.size)).trans (HM.out _ hR))
      go_wp2_with (refine wpList_store_row rfl _ _ _ rfl _ _ rfl rfl _ _ HM5.out sizeAx rfl (by simp [Value.oneCell']) ?_)
      refine bodyPost_ret (results_cell_tmpA rfl _ _ w.heap.size 42 #[.int .i64 0, .string ⟨#[]⟩, .string ⟨#[]⟩, .string ⟨#[]⟩, .string ⟨#[]⟩, .string ⟨#[]⟩] (0, 0) _ _ rfl rfl (setRow_heap _ _ _ _ _ _ HM5.out) Tryz.underlying42 rfl sizeAx) rfl ?_
      rw [HF.out]
      exact ⟨rfl, belowA_setRow (HB1.out.trans ((hR.alloc hR.size _).mono HB1.out.size)) (Nat.le_refl _) _⟩
end Go.Proofs.YtbafmnafhaoggaaGreatDoor

namespace Go.Proofs.YtbafmnafhaoggaaGreatDoor
open Go Go.RowKit

set_option maxRecDepth 100000 in
set_option maxHeartbeats 2000000 in
theorem Find_15 (k : Int) (a b : ByteArray) (w : World) :
    Calls Tryz.prog 11 #[.int .i64 k, .string a, .string b] w fun e w' => e = .returned (.tuple #[axCV ((als15.find? (pA k a b)).getD zeroAx), .bool (als15.find? (pA k a b)).isSome]) ∧ Below w.heap.size w w' := by
  obtain ⟨Wa, hWa⟩ : ∃ Wa, w.alloc (.cells #[.int .i64 k] 3) = Wa := ⟨_, rfl⟩
  obtain ⟨Wb, hWb⟩ : ∃ Wb, Wa.alloc (.cells #[.string a] 9) = Wb := ⟨_, rfl⟩
  obtain ⟨Wc, hWc⟩ : ∃ Wc, Wb.alloc (.cells #[.string b] 9) = Wc := ⟨_, rfl⟩
  obtain ⟨W0, hW0⟩ : ∃ W0, Wc.alloc (.cells #[.int .i64 0, .string ⟨#[]⟩, .string ⟨#[]⟩, .string ⟨#[]⟩, .string ⟨#[]⟩, .string ⟨#[]⟩] 42) = W0 := ⟨_, rfl⟩
  obtain ⟨N, hN⟩ : ∃ N, w.heap.size = N := ⟨_, rfl⟩
  have sa : Wa.heap.size = N + 1 := by rw [← hWa, ← hN]; simp
  have sb : Wb.heap.size = N + 2 := by rw [← hWb]; simp [sa]
  have sc : Wc.heap.size = N + 3 := by rw [← hWc]; simp [sb]
  have b0 : Below N w W0 := by rw [← hW0, ← hWc, ← hWb, ← hWa]; exact ((((Below.refl _ w).alloc (by omega) _).alloc (by rw [hWa]; omega) _).alloc (by rw [hWa, hWb]; omega) _).alloc (by rw [hWa, hWb, hWc]; omega) _
  have za : Wa.heap[N]? = some (.cells #[.int .i64 k] 3 (0, 0)) := by rw [← hWa, ← hN]; exact World.alloc_heap_new w _
  have zb : Wb.heap[N + 1]? = some (.cells #[.string a] 9 (0, 0)) := by rw [← hWb, ← sa]; exact World.alloc_heap_new Wa _
  have zc : Wc.heap[N + 2]? = some (.cells #[.string b] 9 (0, 0)) := by rw [← hWc, ← sb]; exact World.alloc_heap_new Wb _
  have z0 : W0.heap[N + 3]? = some (.cells #[.int .i64 0, .string ⟨#[]⟩, .string ⟨#[]⟩, .string ⟨#[]⟩, .string ⟨#[]⟩, .string ⟨#[]⟩] 42 (0, 0)) := by rw [← hW0, ← sc]; exact World.alloc_heap_new Wc _
  have hab : ∀ i, i < N + 1 → Wb.heap[i]? = Wa.heap[i]? := fun i hi => by rw [← hWb]; exact Below.heap_alloc _ _ _ (by omega)
  have hbc : ∀ i, i < N + 2 → Wc.heap[i]? = Wb.heap[i]? := fun i hi => by rw [← hWc]; exact Below.heap_alloc _ _ _ (by omega)
  have hc0 : ∀ i, i < N + 3 → W0.heap[i]? = Wc.heap[i]? := fun i hi => by rw [← hW0]; exact Below.heap_alloc _ _ _ (by omega)
  have q1 : W0.heap[N]? = some (.cells #[.int .i64 k] 3 (0, 0)) := by rw [hc0 _ (by omega), hbc _ (by omega), hab _ (by omega)]; exact za
  have q2 : W0.heap[N + 1]? = some (.cells #[.string a] 9 (0, 0)) := by rw [hc0 _ (by omega), hbc _ (by omega)]; exact zb
  have q3 : W0.heap[N + 2]? = some (.cells #[.string b] 9 (0, 0)) := by rw [hc0 _ (by omega)]; exact zc
  have HL := Lib.hid ((aliases_15 W0).mono (R' := Row15 W0 54 (als15.flatMap axC) 42) fun _ _ h => Row15.of h)
  obtain ⟨y, hy⟩ : ∃ y, (als15.find? (pA k a b)).getD zeroAx = y := ⟨_, rfl⟩
  obtain ⟨z, hz⟩ : ∃ z, (als15.find? (pA k a b)).isSome = z := ⟨_, rfl⟩
  have HF := Lib.hid (fun g w' (hb : Below W0.heap.size W0 w') (hg : w'.heap[g]? = some (.cells (als15.flatMap axC).toArray 42 (0, 0))) => show Calls Tryz.prog 23 #[.slice (some ⟨g, 0, none⟩) 54 54, .func (.func 24) #[] #[.pointer (some ⟨N, 0, none⟩), .pointer (some ⟨N + 1, 0, none⟩), .pointer (some ⟨N + 2, 0, none⟩)]] w' (fun e w'' => e = .returned (.tuple #[.agg #[.int .i64 y.k, .string y.a, .string y.b, .string y.l, .string y.s, .string y.r], .bool z]) ∧ Below w'.heap.size w' w'') from
    (foundA als15 g k a b N (N + 1) (N + 2) w' (by decide) hg ((hb.block _ (lt_of_block q1)).trans q1) ((hb.block _ (lt_of_block q2)).trans q2) ((hb.block _ (lt_of_block q3)).trans q3)).mono fun e w'' ⟨p, q⟩ => ⟨by rw [p, hy, hz]; rfl, q⟩)
  have HY := Lib.hid hy
  have HZ := Lib.hid hz
  have HB0 := Lib.hid b0
  have HZ0 := Lib.hid z0
  have HW := Lib.hid (And.intro hWa (And.intro hWb (And.intro hWc hW0)))
  have HSZ := Lib.hid (And.intro sa (And.intro sb sc))
  have hmf : ∀ (fn : Fn) (first cap : Array Value) (w : World), (Instr.makeFunc fn first cap).run Tryz.prog w = .ok (.func fn first cap) w := fun _ _ _ _ => rfl
  clear hWa hWb hWc hW0 sa sb sc b0 za zb zc z0 hab hbc hc0 q1 q2 q3 hy hz
  go_enter Tryz.func11, Tryz.ntmps11
  go_upto_region 1 with fail
  try rw [HW.out.1]
  try rw [HW.out.2.1]
  try rw [HW.out.2.2.1]
  try rw [HW.out.2.2.2]
  try rw [HSZ.out.1]
  try rw [HSZ.out.2.1]
  try rw [HSZ.out.2.2]
  try simp only [hN]
  go_wp2_with (first
    | (go_at_call 15; (with_reducible refine HL.out.mono ?_); rintro e w1 ⟨g1, rfl, hg1, hc1, hb1⟩; have HFX := Lib.hid (HF.out g1 w1 hb1 hc1); have HB1 := Lib.hid hb1; clear hg1 hc1 hb1)
    | (go_at_call 23; (with_reducible refine HFX.out.mono ?_); rintro e w2 ⟨rfl, hb2⟩; have hb12 := HB1.out.trans (hb2.mono HB1.out.size); have HM2 := Lib.hid ((hb12.block _ (lt_of_block HZ0.out)).trans HZ0.out); have HB2 := Lib.hid (HB0.out.trans (hb12.mono (hN ▸ HB0.out.size))); clear hb2 hb12)
    | (refine wpList_store_row rfl _ _ _ rfl _ _ rfl rfl _ _ HM2.out sizeAx rfl (by simp [Value.oneCell']) ?_))
  refine bodyPost_ret (results_cell_tmpA rfl _ _ (N + 3) 42 #[.int .i64 y.k, .string y.a, .string y.b, .string y.l, .string y.s, .string y.r] (0, 0) _ (.bool z) rfl rfl (setRow_heap _ _ _ _ _ _ HM2.out) Tryz.underlying42 rfl sizeAx) rfl ?_
  rw [HY.out, HZ.out]
  rw [hN]
  exact ⟨rfl, belowA_setRow HB2.out (show N ≤ N + 1 + 1 + 1 by omega) _⟩
end Go.Proofs.YtbafmnafhaoggaaGreatDoor

namespace Go.Proofs.YtbafmnafhaoggaaGreatDoor
open Go Go.RowKit

set_option maxRecDepth 100000 in
set_option maxHeartbeats 2000000 in
theorem awake15_any (w : World) : Calls Tryz.prog 4 #[] w fun e w' => e = .returned (.bool true) ∧ Below w.heap.size w w' := by
  have HF := Lib.hid (show Calls Tryz.prog 11 #[.int .i64 2, .string { data := #[115, 103, 110] }, .string { data := #[117, 115] }] w (fun e w' => e = .returned (.tuple #[.agg #[.int .i64 2, .string ⟨#[115, 103, 110]⟩, .string ⟨#[117, 115]⟩, .string ⟨#[97, 115, 101]⟩, .string ⟨#[]⟩, .string ⟨#[]⟩], .bool true]) ∧ Below w.heap.size w w') from
    (Find_15 2 ⟨#[115, 103, 110]⟩ ⟨#[117, 115]⟩ w).mono fun e w' ⟨p, q⟩ => ⟨by rw [p]; kernel_rfl, q⟩)
  go_enter Tryz.func4, Tryz.ntmps4
  go_wp2_with (go_at_call 11; (with_reducible refine HF.out.mono ?_); rintro e w5 ⟨rfl, hb5⟩)
  go_ret
  exact ⟨rfl, by first | assumption | exact hb5.alloc hb5.size _⟩
end Go.Proofs.YtbafmnafhaoggaaGreatDoor

namespace Go.Proofs.YtbafmnafhaoggaaGreatDoor
open Go Go.RowKit

def rest15V (x : Int) (n : Nat) : Nat := ((x.tmod n + n) % n).toNat
theorem rest15V_lt (x : Int) (n : Nat) (hn : 1 ≤ n) : rest15V x n < n := by
  unfold rest15V
  have h1 := Int.emod_lt_of_pos (x.tmod n + n) (show (0 : Int) < (n : Int) by omega)
  have h2 := Int.emod_nonneg (x.tmod n + n) (show (n : Int) ≠ 0 by omega)
  omega
theorem rest15_num (x : Int) (n : Nat) (hn : 1 ≤ n) (hn2 : n ≤ 100000) : (wrap64 (x.tmod n + n)).tmod n = (rest15V x n : Int) := by
  have h := Int.natAbs_tmod x n
  have hm := Nat.mod_lt x.natAbs (show 0 < n by omega)
  unfold rest15V
  rw [Int.natAbs_natCast] at h
  generalize x.tmod n = z at *
  have hz : z.natAbs < n := by omega
  have hw : wrap64 (z + n) = z + n := IntWalk.wrap64_in _ ⟨by omega, by omega⟩
  rw [hw, Int.tmod_eq_emod_of_nonneg (by omega)]
  have h2 := Int.emod_nonneg (z + n) (show (n : Int) ≠ 0 by omega)
  omega
theorem ret_int15 {a b : Int} (h : a = b) : Ending.returned (.int .i64 a) = .returned (.int .i64 b) := by rw [h]
set_option maxRecDepth 100000 in
theorem rest15_any (x : Int) (n : Nat) (w : World) (hn : 1 ≤ n) (hn2 : n ≤ 100000) :
    Calls Tryz.prog 9 #[.int .i64 x, .int .i64 (n : Int)] w fun e w' => e = .returned (.int .i64 (rest15V x n : Int)) ∧ w' = w := by
  have HE := Lib.hid (rest15_num x n hn hn2)
  have h0 : ((n : Int) == 0) = false := by rw [beq_eq_false_iff_ne]; omega
  have h1 : (n : Int) ≠ 0 := by omega
  clear hn hn2
  generalize (n : Int) = m at *
  go_enter Tryz.func9, Tryz.ntmps9
  go_wp2
  go_ret
  exact ⟨ret_int15 HE.out, rfl⟩
end Go.Proofs.YtbafmnafhaoggaaGreatDoor
