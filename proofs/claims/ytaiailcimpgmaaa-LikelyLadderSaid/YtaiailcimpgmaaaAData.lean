/-
  Layer 15's image as the chapter has it, and what the program's functions tell of it. (Printed by wip/gen_adata.py.)
-/
import Derived.Test.YtaiailcimpgmaaaProg
import Derived.Test.YtaiailcimpgmaaaBMaths
import Derived.WalkKit
import Derived.Lib.Hide
import Derived.Outline
import Derived.OwnWalk
import Derived.WalkSmall
import Derived.Carry
import Derived.OneCell
import Derived.Laws.Rows
import Derived.Laws.Tables
import Derived.Deep.CutRange
import Derived.KernelRfl
import Derived.Test.YtaiailcimpgmaaaALits
namespace Go.Proofs.Ytaiailcimpgmaaa
open Go Go.RowKit

structure Ax where
  k : Int
  a : ByteArray
  b : ByteArray
  l : ByteArray
  s : ByteArray
  r : ByteArray
structure Lx where
  l : ByteArray
  s : ByteArray
  r : ByteArray
  tl : ByteArray
  ts : ByteArray
  tr : ByteArray
structure Rx where
  lv : Int
  co : Int
  ow : Bool
  d0 : ByteArray
  d1 : ByteArray
  d2 : ByteArray
  s0 : ByteArray
  s1 : ByteArray
  s2 : ByteArray
structure Mx where
  st : ByteArray
  rg : ByteArray
def axC (x : Ax) : List Value := [.int .i64 x.k, .string x.a, .string x.b, .string x.l, .string x.s, .string x.r]
def lxC (x : Lx) : List Value := [.string x.l, .string x.s, .string x.r, .string x.tl, .string x.ts, .string x.tr]
def rxC (x : Rx) : List Value := [.int .i64 x.lv, .int .i64 x.co, .bool x.ow, .string x.d0, .string x.d1, .string x.d2, .string x.s0, .string x.s1, .string x.s2]
def mxC (x : Mx) : List Value := [.string x.st, .string x.rg]
def als15 : List Ax := [⟨1, ⟨#[49, 56]⟩, ⟨#[]⟩, ⟨#[115, 102, 98]⟩, ⟨#[]⟩, ⟨#[]⟩⟩,
  ⟨1, ⟨#[49, 57]⟩, ⟨#[]⟩, ⟨#[118, 103, 116]⟩, ⟨#[]⟩, ⟨#[]⟩⟩,
  ⟨1, ⟨#[50, 48]⟩, ⟨#[]⟩, ⟨#[115, 103, 103]⟩, ⟨#[]⟩, ⟨#[]⟩⟩,
  ⟨1, ⟨#[48, 51]⟩, ⟨#[]⟩, ⟨#[97, 109, 105]⟩, ⟨#[]⟩, ⟨#[]⟩⟩,
  ⟨1, ⟨#[48, 56]⟩, ⟨#[]⟩, ⟨#[116, 108, 104]⟩, ⟨#[]⟩, ⟨#[]⟩⟩,
  ⟨1, ⟨#[48, 57]⟩, ⟨#[]⟩, ⟨#[108, 98]⟩, ⟨#[]⟩, ⟨#[]⟩⟩,
  ⟨1, ⟨#[49, 49]⟩, ⟨#[]⟩, ⟨#[110, 118]⟩, ⟨#[]⟩, ⟨#[]⟩⟩,
  ⟨1, ⟨#[49, 50]⟩, ⟨#[]⟩, ⟨#[112, 119, 110]⟩, ⟨#[]⟩, ⟨#[]⟩⟩,
  ⟨1, ⟨#[49, 51]⟩, ⟨#[]⟩, ⟨#[116, 97, 111]⟩, ⟨#[]⟩, ⟨#[]⟩⟩,
  ⟨1, ⟨#[49, 52]⟩, ⟨#[]⟩, ⟨#[116, 97, 121]⟩, ⟨#[]⟩, ⟨#[]⟩⟩,
  ⟨1, ⟨#[49, 53]⟩, ⟨#[]⟩, ⟨#[116, 115, 117]⟩, ⟨#[]⟩, ⟨#[]⟩⟩,
  ⟨1, ⟨#[49, 54]⟩, ⟨#[]⟩, ⟨#[110, 98]⟩, ⟨#[]⟩, ⟨#[]⟩⟩,
  ⟨1, ⟨#[49, 55]⟩, ⟨#[]⟩, ⟨#[110, 110]⟩, ⟨#[]⟩, ⟨#[]⟩⟩,
  ⟨1, ⟨#[48, 48]⟩, ⟨#[]⟩, ⟨#[106, 98, 111]⟩, ⟨#[]⟩, ⟨#[]⟩⟩,
  ⟨1, ⟨#[50, 50]⟩, ⟨#[]⟩, ⟨#[104, 97, 107]⟩, ⟨#[]⟩, ⟨#[]⟩⟩,
  ⟨1, ⟨#[50, 52]⟩, ⟨#[]⟩, ⟨#[110, 97, 110]⟩, ⟨#[]⟩, ⟨#[]⟩⟩,
  ⟨1, ⟨#[50, 53]⟩, ⟨#[]⟩, ⟨#[104, 115, 110]⟩, ⟨#[]⟩, ⟨#[]⟩⟩,
  ⟨1, ⟨#[48, 55]⟩, ⟨#[]⟩, ⟨#[104, 97, 107]⟩, ⟨#[]⟩, ⟨#[]⟩⟩,
  ⟨1, ⟨#[48, 52]⟩, ⟨#[]⟩, ⟨#[98, 110, 110]⟩, ⟨#[]⟩, ⟨#[]⟩⟩,
  ⟨2, ⟨#[115, 103, 110]⟩, ⟨#[98, 114]⟩, ⟨#[98, 122, 115]⟩, ⟨#[]⟩, ⟨#[]⟩⟩,
  ⟨2, ⟨#[115, 103, 110]⟩, ⟨#[117, 115]⟩, ⟨#[97, 115, 101]⟩, ⟨#[]⟩, ⟨#[]⟩⟩,
  ⟨2, ⟨#[115, 103, 110]⟩, ⟨#[103, 98]⟩, ⟨#[98, 102, 105]⟩, ⟨#[]⟩, ⟨#[]⟩⟩,
  ⟨2, ⟨#[115, 103, 110]⟩, ⟨#[100, 101]⟩, ⟨#[103, 115, 103]⟩, ⟨#[]⟩, ⟨#[]⟩⟩,
  ⟨3, ⟨#[105, 119]⟩, ⟨#[]⟩, ⟨#[104, 101]⟩, ⟨#[]⟩, ⟨#[]⟩⟩,
  ⟨3, ⟨#[105, 110]⟩, ⟨#[]⟩, ⟨#[105, 100]⟩, ⟨#[]⟩, ⟨#[]⟩⟩,
  ⟨3, ⟨#[106, 105]⟩, ⟨#[]⟩, ⟨#[121, 105]⟩, ⟨#[]⟩, ⟨#[]⟩⟩,
  ⟨3, ⟨#[109, 111]⟩, ⟨#[]⟩, ⟨#[114, 111]⟩, ⟨#[]⟩, ⟨#[]⟩⟩,
  ⟨3, ⟨#[110, 111]⟩, ⟨#[]⟩, ⟨#[110, 98]⟩, ⟨#[]⟩, ⟨#[]⟩⟩,
  ⟨3, ⟨#[116, 108]⟩, ⟨#[]⟩, ⟨#[102, 105, 108]⟩, ⟨#[]⟩, ⟨#[]⟩⟩,
  ⟨3, ⟨#[115, 104]⟩, ⟨#[]⟩, ⟨#[115, 114]⟩, ⟨#[108, 97, 116, 110]⟩, ⟨#[]⟩⟩,
  ⟨3, ⟨#[99, 109, 110]⟩, ⟨#[]⟩, ⟨#[122, 104]⟩, ⟨#[]⟩, ⟨#[]⟩⟩,
  ⟨3, ⟨#[99, 110, 114]⟩, ⟨#[]⟩, ⟨#[115, 114]⟩, ⟨#[]⟩, ⟨#[109, 101]⟩⟩,
  ⟨3, ⟨#[101, 110, 103]⟩, ⟨#[]⟩, ⟨#[101, 110]⟩, ⟨#[]⟩, ⟨#[]⟩⟩,
  ⟨3, ⟨#[100, 101, 117]⟩, ⟨#[]⟩, ⟨#[100, 101]⟩, ⟨#[]⟩, ⟨#[]⟩⟩,
  ⟨3, ⟨#[102, 114, 97]⟩, ⟨#[]⟩, ⟨#[102, 114]⟩, ⟨#[]⟩, ⟨#[]⟩⟩,
  ⟨4, ⟨#[113, 97, 97, 105]⟩, ⟨#[]⟩, ⟨#[]⟩, ⟨#[122, 105, 110, 104]⟩, ⟨#[]⟩⟩,
  ⟨5, ⟨#[100, 100]⟩, ⟨#[]⟩, ⟨#[]⟩, ⟨#[]⟩, ⟨#[100, 101]⟩⟩,
  ⟨5, ⟨#[115, 117]⟩, ⟨#[]⟩, ⟨#[]⟩, ⟨#[]⟩, ⟨#[114, 117]⟩⟩,
  ⟨5, ⟨#[98, 117]⟩, ⟨#[]⟩, ⟨#[]⟩, ⟨#[]⟩, ⟨#[109, 109]⟩⟩,
  ⟨5, ⟨#[102, 120]⟩, ⟨#[]⟩, ⟨#[]⟩, ⟨#[]⟩, ⟨#[102, 114]⟩⟩,
  ⟨5, ⟨#[56, 52, 48]⟩, ⟨#[]⟩, ⟨#[]⟩, ⟨#[]⟩, ⟨#[117, 115]⟩⟩,
  ⟨5, ⟨#[50, 55, 54]⟩, ⟨#[]⟩, ⟨#[]⟩, ⟨#[]⟩, ⟨#[100, 101]⟩⟩,
  ⟨5, ⟨#[56, 50, 54]⟩, ⟨#[]⟩, ⟨#[]⟩, ⟨#[]⟩, ⟨#[103, 98]⟩⟩,
  ⟨5, ⟨#[49, 53, 54]⟩, ⟨#[]⟩, ⟨#[]⟩, ⟨#[]⟩, ⟨#[99, 110]⟩⟩,
  ⟨5, ⟨#[116, 112]⟩, ⟨#[]⟩, ⟨#[]⟩, ⟨#[]⟩, ⟨#[116, 108]⟩⟩,
  ⟨5, ⟨#[122, 114]⟩, ⟨#[]⟩, ⟨#[]⟩, ⟨#[]⟩, ⟨#[99, 100]⟩⟩,
  ⟨5, ⟨#[121, 117]⟩, ⟨#[]⟩, ⟨#[]⟩, ⟨#[]⟩, ⟨#[114, 115]⟩⟩,
  ⟨5, ⟨#[99, 115]⟩, ⟨#[]⟩, ⟨#[]⟩, ⟨#[]⟩, ⟨#[114, 115]⟩⟩,
  ⟨6, ⟨#[104, 101, 112, 108, 111, 99]⟩, ⟨#[]⟩, ⟨#[97, 108, 97, 108, 99, 57, 55]⟩, ⟨#[]⟩, ⟨#[]⟩⟩,
  ⟨6, ⟨#[112, 111, 108, 121, 116, 111, 110, 105]⟩, ⟨#[]⟩, ⟨#[112, 111, 108, 121, 116, 111, 110]⟩, ⟨#[]⟩, ⟨#[]⟩⟩,
  ⟨7, ⟨#[99, 97]⟩, ⟨#[105, 115, 108, 97, 109, 105, 99, 99]⟩, ⟨#[99, 105, 118, 105, 108]⟩, ⟨#[]⟩, ⟨#[]⟩⟩,
  ⟨7, ⟨#[109, 115]⟩, ⟨#[105, 109, 112, 101, 114, 105, 97, 108]⟩, ⟨#[117, 107, 115, 121, 115, 116, 101, 109]⟩, ⟨#[]⟩, ⟨#[]⟩⟩,
  ⟨7, ⟨#[99, 111]⟩, ⟨#[100, 105, 99, 116, 105, 111, 110]⟩, ⟨#[100, 105, 99, 116]⟩, ⟨#[]⟩, ⟨#[]⟩⟩,
  ⟨7, ⟨#[107, 98]⟩, ⟨#[121, 101, 115]⟩, ⟨#[116, 114, 117, 101]⟩, ⟨#[]⟩, ⟨#[]⟩⟩]
def lks15 : List Lx := [⟨⟨#[101, 110]⟩, ⟨#[]⟩, ⟨#[]⟩, ⟨#[101, 110]⟩, ⟨#[108, 97, 116, 110]⟩, ⟨#[117, 115]⟩⟩,
  ⟨⟨#[101, 110]⟩, ⟨#[115, 104, 97, 119]⟩, ⟨#[]⟩, ⟨#[101, 110]⟩, ⟨#[115, 104, 97, 119]⟩, ⟨#[103, 98]⟩⟩,
  ⟨⟨#[117, 110, 100]⟩, ⟨#[]⟩, ⟨#[]⟩, ⟨#[101, 110]⟩, ⟨#[108, 97, 116, 110]⟩, ⟨#[117, 115]⟩⟩,
  ⟨⟨#[117, 110, 100]⟩, ⟨#[]⟩, ⟨#[52, 49, 57]⟩, ⟨#[101, 115]⟩, ⟨#[108, 97, 116, 110]⟩, ⟨#[52, 49, 57]⟩⟩,
  ⟨⟨#[100, 101]⟩, ⟨#[]⟩, ⟨#[]⟩, ⟨#[100, 101]⟩, ⟨#[108, 97, 116, 110]⟩, ⟨#[100, 101]⟩⟩,
  ⟨⟨#[102, 114]⟩, ⟨#[]⟩, ⟨#[]⟩, ⟨#[102, 114]⟩, ⟨#[108, 97, 116, 110]⟩, ⟨#[102, 114]⟩⟩,
  ⟨⟨#[101, 115]⟩, ⟨#[]⟩, ⟨#[]⟩, ⟨#[101, 115]⟩, ⟨#[108, 97, 116, 110]⟩, ⟨#[101, 115]⟩⟩,
  ⟨⟨#[122, 104]⟩, ⟨#[]⟩, ⟨#[]⟩, ⟨#[122, 104]⟩, ⟨#[104, 97, 110, 115]⟩, ⟨#[99, 110]⟩⟩,
  ⟨⟨#[122, 104]⟩, ⟨#[]⟩, ⟨#[116, 119]⟩, ⟨#[122, 104]⟩, ⟨#[104, 97, 110, 116]⟩, ⟨#[116, 119]⟩⟩,
  ⟨⟨#[122, 104]⟩, ⟨#[]⟩, ⟨#[104, 107]⟩, ⟨#[122, 104]⟩, ⟨#[104, 97, 110, 116]⟩, ⟨#[104, 107]⟩⟩,
  ⟨⟨#[122, 104]⟩, ⟨#[104, 97, 110, 116]⟩, ⟨#[]⟩, ⟨#[122, 104]⟩, ⟨#[104, 97, 110, 116]⟩, ⟨#[116, 119]⟩⟩,
  ⟨⟨#[117, 110, 100]⟩, ⟨#[104, 97, 110, 116]⟩, ⟨#[]⟩, ⟨#[122, 104]⟩, ⟨#[104, 97, 110, 116]⟩, ⟨#[116, 119]⟩⟩,
  ⟨⟨#[117, 110, 100]⟩, ⟨#[104, 97, 110, 115]⟩, ⟨#[]⟩, ⟨#[122, 104]⟩, ⟨#[104, 97, 110, 115]⟩, ⟨#[99, 110]⟩⟩,
  ⟨⟨#[115, 114]⟩, ⟨#[]⟩, ⟨#[]⟩, ⟨#[115, 114]⟩, ⟨#[99, 121, 114, 108]⟩, ⟨#[114, 115]⟩⟩,
  ⟨⟨#[115, 114]⟩, ⟨#[108, 97, 116, 110]⟩, ⟨#[]⟩, ⟨#[115, 114]⟩, ⟨#[108, 97, 116, 110]⟩, ⟨#[114, 115]⟩⟩,
  ⟨⟨#[115, 114]⟩, ⟨#[]⟩, ⟨#[109, 101]⟩, ⟨#[115, 114]⟩, ⟨#[108, 97, 116, 110]⟩, ⟨#[109, 101]⟩⟩,
  ⟨⟨#[117, 110, 100]⟩, ⟨#[99, 121, 114, 108]⟩, ⟨#[]⟩, ⟨#[114, 117]⟩, ⟨#[99, 121, 114, 108]⟩, ⟨#[114, 117]⟩⟩,
  ⟨⟨#[114, 117]⟩, ⟨#[]⟩, ⟨#[]⟩, ⟨#[114, 117]⟩, ⟨#[99, 121, 114, 108]⟩, ⟨#[114, 117]⟩⟩,
  ⟨⟨#[104, 101]⟩, ⟨#[]⟩, ⟨#[]⟩, ⟨#[104, 101]⟩, ⟨#[104, 101, 98, 114]⟩, ⟨#[105, 108]⟩⟩,
  ⟨⟨#[117, 110, 100]⟩, ⟨#[104, 101, 98, 114]⟩, ⟨#[]⟩, ⟨#[104, 101]⟩, ⟨#[104, 101, 98, 114]⟩, ⟨#[105, 108]⟩⟩,
  ⟨⟨#[97, 114]⟩, ⟨#[]⟩, ⟨#[]⟩, ⟨#[97, 114]⟩, ⟨#[97, 114, 97, 98]⟩, ⟨#[101, 103]⟩⟩,
  ⟨⟨#[117, 110, 100]⟩, ⟨#[97, 114, 97, 98]⟩, ⟨#[]⟩, ⟨#[97, 114]⟩, ⟨#[97, 114, 97, 98]⟩, ⟨#[101, 103]⟩⟩,
  ⟨⟨#[110, 98]⟩, ⟨#[]⟩, ⟨#[]⟩, ⟨#[110, 98]⟩, ⟨#[108, 97, 116, 110]⟩, ⟨#[110, 111]⟩⟩,
  ⟨⟨#[110, 110]⟩, ⟨#[]⟩, ⟨#[]⟩, ⟨#[110, 110]⟩, ⟨#[108, 97, 116, 110]⟩, ⟨#[110, 111]⟩⟩,
  ⟨⟨#[100, 97]⟩, ⟨#[]⟩, ⟨#[]⟩, ⟨#[100, 97]⟩, ⟨#[108, 97, 116, 110]⟩, ⟨#[100, 107]⟩⟩,
  ⟨⟨#[112, 116]⟩, ⟨#[]⟩, ⟨#[]⟩, ⟨#[112, 116]⟩, ⟨#[108, 97, 116, 110]⟩, ⟨#[98, 114]⟩⟩,
  ⟨⟨#[104, 105]⟩, ⟨#[]⟩, ⟨#[]⟩, ⟨#[104, 105]⟩, ⟨#[100, 101, 118, 97]⟩, ⟨#[105, 110]⟩⟩,
  ⟨⟨#[104, 105]⟩, ⟨#[108, 97, 116, 110]⟩, ⟨#[]⟩, ⟨#[104, 105]⟩, ⟨#[108, 97, 116, 110]⟩, ⟨#[105, 110]⟩⟩,
  ⟨⟨#[106, 97]⟩, ⟨#[]⟩, ⟨#[]⟩, ⟨#[106, 97]⟩, ⟨#[106, 112, 97, 110]⟩, ⟨#[106, 112]⟩⟩,
  ⟨⟨#[105, 100]⟩, ⟨#[]⟩, ⟨#[]⟩, ⟨#[105, 100]⟩, ⟨#[108, 97, 116, 110]⟩, ⟨#[105, 100]⟩⟩,
  ⟨⟨#[102, 105, 108]⟩, ⟨#[]⟩, ⟨#[]⟩, ⟨#[102, 105, 108]⟩, ⟨#[108, 97, 116, 110]⟩, ⟨#[112, 104]⟩⟩,
  ⟨⟨#[114, 111]⟩, ⟨#[]⟩, ⟨#[]⟩, ⟨#[114, 111]⟩, ⟨#[108, 97, 116, 110]⟩, ⟨#[114, 111]⟩⟩]
def rls15 : List Rx := [⟨1, 1, false, ⟨#[110, 98]⟩, ⟨#[]⟩, ⟨#[]⟩, ⟨#[110, 111]⟩, ⟨#[]⟩, ⟨#[]⟩⟩,
  ⟨1, 4, false, ⟨#[110, 98]⟩, ⟨#[]⟩, ⟨#[]⟩, ⟨#[100, 97]⟩, ⟨#[]⟩, ⟨#[]⟩⟩,
  ⟨1, 20, false, ⟨#[110, 110]⟩, ⟨#[]⟩, ⟨#[]⟩, ⟨#[110, 98]⟩, ⟨#[]⟩, ⟨#[]⟩⟩,
  ⟨1, 8, false, ⟨#[110, 110]⟩, ⟨#[]⟩, ⟨#[]⟩, ⟨#[100, 97]⟩, ⟨#[]⟩, ⟨#[]⟩⟩,
  ⟨1, 30, true, ⟨#[105, 100]⟩, ⟨#[]⟩, ⟨#[]⟩, ⟨#[109, 115]⟩, ⟨#[]⟩, ⟨#[]⟩⟩,
  ⟨1, 80, false, ⟨#[42]⟩, ⟨#[]⟩, ⟨#[]⟩, ⟨#[42]⟩, ⟨#[]⟩, ⟨#[]⟩⟩,
  ⟨2, 15, true, ⟨#[122, 104]⟩, ⟨#[104, 97, 110, 115]⟩, ⟨#[]⟩, ⟨#[122, 104]⟩, ⟨#[104, 97, 110, 116]⟩, ⟨#[]⟩⟩,
  ⟨2, 19, true, ⟨#[122, 104]⟩, ⟨#[104, 97, 110, 116]⟩, ⟨#[]⟩, ⟨#[122, 104]⟩, ⟨#[104, 97, 110, 115]⟩, ⟨#[]⟩⟩,
  ⟨2, 20, false, ⟨#[115, 114]⟩, ⟨#[108, 97, 116, 110]⟩, ⟨#[]⟩, ⟨#[115, 114]⟩, ⟨#[99, 121, 114, 108]⟩, ⟨#[]⟩⟩,
  ⟨2, 50, false, ⟨#[42]⟩, ⟨#[42]⟩, ⟨#[]⟩, ⟨#[42]⟩, ⟨#[42]⟩, ⟨#[]⟩⟩,
  ⟨3, 3, false, ⟨#[101, 110]⟩, ⟨#[42]⟩, ⟨#[36, 101, 110, 117, 115]⟩, ⟨#[101, 110]⟩, ⟨#[42]⟩, ⟨#[36, 101, 110, 117, 115]⟩⟩,
  ⟨3, 3, false, ⟨#[101, 110]⟩, ⟨#[42]⟩, ⟨#[33, 101, 110, 117, 115]⟩, ⟨#[101, 110]⟩, ⟨#[42]⟩, ⟨#[33, 101, 110, 117, 115]⟩⟩,
  ⟨3, 4, false, ⟨#[101, 115]⟩, ⟨#[42]⟩, ⟨#[36, 97, 109, 101, 114]⟩, ⟨#[101, 115]⟩, ⟨#[42]⟩, ⟨#[36, 97, 109, 101, 114]⟩⟩,
  ⟨3, 5, false, ⟨#[101, 115]⟩, ⟨#[42]⟩, ⟨#[33, 97, 109, 101, 114]⟩, ⟨#[101, 115]⟩, ⟨#[42]⟩, ⟨#[36, 97, 109, 101, 114]⟩⟩,
  ⟨3, 4, false, ⟨#[42]⟩, ⟨#[42]⟩, ⟨#[42]⟩, ⟨#[42]⟩, ⟨#[42]⟩, ⟨#[42]⟩⟩]
def mbs15 : List Mx := [⟨⟨#[97, 109, 101, 114]⟩, ⟨#[52, 49, 57]⟩⟩,
  ⟨⟨#[97, 109, 101, 114]⟩, ⟨#[97, 114]⟩⟩,
  ⟨⟨#[97, 109, 101, 114]⟩, ⟨#[109, 120]⟩⟩,
  ⟨⟨#[97, 109, 101, 114]⟩, ⟨#[117, 115]⟩⟩,
  ⟨⟨#[101, 110, 117, 115]⟩, ⟨#[117, 115]⟩⟩,
  ⟨⟨#[101, 110, 117, 115]⟩, ⟨#[112, 114]⟩⟩,
  ⟨⟨#[101, 110, 117, 115]⟩, ⟨#[103, 117]⟩⟩]
set_option maxRecDepth 100000 in
set_option maxHeartbeats 2000000 in
theorem aliases_15 (w : World) : Calls Try.prog 13 #[] w fun e w' => e = .returned (.slice (some ⟨w.heap.size, 0, none⟩) 54 54) ∧ w' = w.alloc (.cells (als15.flatMap axC).toArray 62) := by
  obtain ⟨N, hN⟩ : ∃ N, w.heap.size = N := ⟨_, rfl⟩
  rw [hN]
  go_enter Try.func13, Try.ntmps13
  go_upto_region 1 with fail
  refine wp_region_lit ?_
  refine wpList_litsN 54 (⟨(.slice none 0 0 :: ((als15.map fun x => Value.agg (axC x).toArray) ++ [undef])).toArray, []⟩) (by kernel_rfl) ?_
  simp only [List.drop_succ_cons, List.drop_zero]
  refine wpList_litRow 36 62 54 _ rfl rfl (by kernel_rfl) (als15.flatMap axC).toArray N hN (by kernel_rfl) (a' := ⟨(.slice none 0 0 :: ((als15.map fun x => Value.agg (axC x).toArray) ++ [.slice (some ⟨N, 0, none⟩) 54 54])).toArray, []⟩) (by kernel_rfl) ?_
  refine wpList_litsN 1 (⟨(.slice (some ⟨N, 0, none⟩) 54 54 :: ((als15.map fun x => Value.agg (axC x).toArray) ++ [.slice (some ⟨N, 0, none⟩) 54 54])).toArray, []⟩) (by kernel_rfl) ?_
  simp only [List.drop_succ_cons, List.drop_zero]
  refine wpList_nil ?_
  generalize (als15.map fun x => Value.agg (axC x).toArray) ++ [.slice (some ⟨N, 0, none⟩) 54 54] = rest
  go_wp2
  go_ret
  exact ⟨rfl, rfl⟩
set_option maxRecDepth 100000 in
set_option maxHeartbeats 2000000 in
theorem likelies_15 (w : World) : Calls Try.prog 14 #[] w fun e w' => e = .returned (.slice (some ⟨w.heap.size, 0, none⟩) 32 32) ∧ w' = w.alloc (.cells (lks15.flatMap lxC).toArray 56) := by
  obtain ⟨N, hN⟩ : ∃ N, w.heap.size = N := ⟨_, rfl⟩
  rw [hN]
  go_enter Try.func14, Try.ntmps14
  go_upto_region 1 with fail
  refine wp_region_lit ?_
  refine wpList_litsN 32 (⟨(.slice none 0 0 :: ((lks15.map fun x => Value.agg (lxC x).toArray) ++ [undef])).toArray, []⟩) (by kernel_rfl) ?_
  simp only [List.drop_succ_cons, List.drop_zero]
  refine wpList_litRow 37 56 32 _ rfl rfl (by kernel_rfl) (lks15.flatMap lxC).toArray N hN (by kernel_rfl) (a' := ⟨(.slice none 0 0 :: ((lks15.map fun x => Value.agg (lxC x).toArray) ++ [.slice (some ⟨N, 0, none⟩) 32 32])).toArray, []⟩) (by kernel_rfl) ?_
  refine wpList_litsN 1 (⟨(.slice (some ⟨N, 0, none⟩) 32 32 :: ((lks15.map fun x => Value.agg (lxC x).toArray) ++ [.slice (some ⟨N, 0, none⟩) 32 32])).toArray, []⟩) (by kernel_rfl) ?_
  simp only [List.drop_succ_cons, List.drop_zero]
  refine wpList_nil ?_
  generalize (lks15.map fun x => Value.agg (lxC x).toArray) ++ [.slice (some ⟨N, 0, none⟩) 32 32] = rest
  go_wp2
  go_ret
  exact ⟨rfl, rfl⟩
set_option maxRecDepth 100000 in
set_option maxHeartbeats 2000000 in
theorem rules_15 (w : World) : Calls Try.prog 15 #[] w fun e w' => e = .returned (.slice (some ⟨w.heap.size, 0, none⟩) 15 15) ∧ w' = w.alloc (.cells (rls15.flatMap rxC).toArray 64) := by
  obtain ⟨N, hN⟩ : ∃ N, w.heap.size = N := ⟨_, rfl⟩
  rw [hN]
  go_enter Try.func15, Try.ntmps15
  go_upto_region 1 with fail
  refine wp_region_lit ?_
  refine wpList_litsN 45 (⟨(.slice none 0 0 :: ((rls15.flatMap fun x => [Value.agg #[.string x.d0, .string x.d1, .string x.d2], Value.agg #[.string x.s0, .string x.s1, .string x.s2], Value.agg (rxC x).toArray]) ++ [undef])).toArray, []⟩) (by kernel_rfl) ?_
  simp only [List.drop_succ_cons, List.drop_zero]
  refine wpList_litRow 38 64 15 _ rfl rfl (by kernel_rfl) (rls15.flatMap rxC).toArray N hN (by kernel_rfl) (a' := ⟨(.slice none 0 0 :: ((rls15.flatMap fun x => [Value.agg #[.string x.d0, .string x.d1, .string x.d2], Value.agg #[.string x.s0, .string x.s1, .string x.s2], Value.agg (rxC x).toArray]) ++ [.slice (some ⟨N, 0, none⟩) 15 15])).toArray, []⟩) (by kernel_rfl) ?_
  refine wpList_litsN 1 (⟨(.slice (some ⟨N, 0, none⟩) 15 15 :: ((rls15.flatMap fun x => [Value.agg #[.string x.d0, .string x.d1, .string x.d2], Value.agg #[.string x.s0, .string x.s1, .string x.s2], Value.agg (rxC x).toArray]) ++ [.slice (some ⟨N, 0, none⟩) 15 15])).toArray, []⟩) (by kernel_rfl) ?_
  simp only [List.drop_succ_cons, List.drop_zero]
  refine wpList_nil ?_
  generalize (rls15.flatMap fun x => [Value.agg #[.string x.d0, .string x.d1, .string x.d2], Value.agg #[.string x.s0, .string x.s1, .string x.s2], Value.agg (rxC x).toArray]) ++ [.slice (some ⟨N, 0, none⟩) 15 15] = rest
  go_wp2
  go_ret
  exact ⟨rfl, rfl⟩
set_option maxRecDepth 100000 in
set_option maxHeartbeats 2000000 in
theorem members_15 (w : World) : Calls Try.prog 16 #[] w fun e w' => e = .returned (.slice (some ⟨w.heap.size, 0, none⟩) 7 7) ∧ w' = w.alloc (.cells (mbs15.flatMap mxC).toArray 66) := by
  obtain ⟨N, hN⟩ : ∃ N, w.heap.size = N := ⟨_, rfl⟩
  rw [hN]
  go_enter Try.func16, Try.ntmps16
  go_upto_region 1 with fail
  refine wp_region_lit ?_
  refine wpList_litsN 7 (⟨(.slice none 0 0 :: ((mbs15.map fun x => Value.agg (mxC x).toArray) ++ [undef])).toArray, []⟩) (by kernel_rfl) ?_
  simp only [List.drop_succ_cons, List.drop_zero]
  refine wpList_litRow 39 66 7 _ rfl rfl (by kernel_rfl) (mbs15.flatMap mxC).toArray N hN (by kernel_rfl) (a' := ⟨(.slice none 0 0 :: ((mbs15.map fun x => Value.agg (mxC x).toArray) ++ [.slice (some ⟨N, 0, none⟩) 7 7])).toArray, []⟩) (by kernel_rfl) ?_
  refine wpList_litsN 1 (⟨(.slice (some ⟨N, 0, none⟩) 7 7 :: ((mbs15.map fun x => Value.agg (mxC x).toArray) ++ [.slice (some ⟨N, 0, none⟩) 7 7])).toArray, []⟩) (by kernel_rfl) ?_
  simp only [List.drop_succ_cons, List.drop_zero]
  refine wpList_nil ?_
  generalize (mbs15.map fun x => Value.agg (mxC x).toArray) ++ [.slice (some ⟨N, 0, none⟩) 7 7] = rest
  go_wp2
  go_ret
  exact ⟨rfl, rfl⟩
end Go.Proofs.Ytaiailcimpgmaaa
