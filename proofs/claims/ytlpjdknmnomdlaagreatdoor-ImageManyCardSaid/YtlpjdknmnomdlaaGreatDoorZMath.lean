/-
  Images as texts: likely rows, rules and members, which are right, their rows; an image's bytes, or what is wrong with it (plain mathematics).
-/
import Derived.Test.YtlpjdknmnomdlaaGreatDoorYMath
import Derived.Test.YtlpjdknmnomdlaaGreatDoorWBuild
namespace Go.Proofs.YtlpjdknmnomdlaaGreatDoor
open Go Go.RowKit

structure Lk where
  l : ByteArray
  s : ByteArray
  r : ByteArray
  tl : ByteArray
  ts : ByteArray
  tr : ByteArray
structure Rl where
  lv : Int
  co : Int
  ow : Bool
  d0 : ByteArray
  d1 : ByteArray
  d2 : ByteArray
  s0 : ByteArray
  s1 : ByteArray
  s2 : ByteArray
structure Mb where
  st : ByteArray
  rg : ByteArray
/-- An image. -/
structure Im where
  als : List Al
  lks : List Lk
  rls : List Rl
  mbs : List Mb
  th : Int
  de : Int

/-! What may be. -/
def UND : ByteArray := ⟨#[117, 110, 100]⟩
def STAR : ByteArray := ⟨#[42]⟩
def nameS (s : ByteArray) : Bool := decide (s.size ≤ 7) && (alnumS s && smallS s)
def markS (s : ByteArray) : Bool := if h : 0 < s.size then (decide (s[0].toNat = 36) || decide (s[0].toNat = 33)) else false
def placeS (s : ByteArray) : Bool := if markS s then nameS (s.extract 1 s.size) else regionS s
def lkT (x : Lk) : List ByteArray := [x.l, x.s, x.r, x.tl, x.ts, x.tr]
def rightLk (x : Lk) : Bool := (lkT x).all smallS && (languageS x.l && (maybeS scriptS x.s && (maybeS regionS x.r && (languageS x.tl && (!decide (x.tl = UND) && (scriptS x.ts && regionS x.tr))))))
def fitK : Nat → ByteArray → Bool
  | 0 => languageS
  | 1 => scriptS
  | _ => placeS
def sideOne (lv : Int) (k : Nat) (s : ByteArray) : Bool := if lv ≤ (k : Int) then decide (s.size = 0) else decide (s = STAR) || (fitK k s && smallS s)
def sideS (lv : Int) (a b c : ByteArray) : Bool := sideOne lv 0 a && (sideOne lv 1 b && sideOne lv 2 c)
def rightRl (x : Rl) : Bool := decide (1 ≤ x.lv) && (decide (x.lv ≤ 3) && (decide (0 ≤ x.co) && (decide (x.co ≤ 100) && (sideS x.lv x.d0 x.d1 x.d2 && sideS x.lv x.s0 x.s1 x.s2))))
def rightMb (x : Mb) : Bool := nameS x.st && (regionS x.rg && smallS x.rg)

/-! Rows. -/
def u64N (n : Int) : Nat := (IntKind.u64.wrap n).toNat
theorem u64N_cast (n : Int) : IntKind.u64.wrap n = ((u64N n : Nat) : Int) := by
  have h : 0 ≤ IntKind.u64.wrap n := by
    show 0 ≤ n % (2 ^ 64 : Int)
    exact Int.emod_nonneg _ (by decide)
  unfold u64N
  rw [Int.toNat_of_nonneg h]
def bitN (b : Bool) : Nat := if b then 1 else 0
def packL (ts : List ByteArray) : List UInt8 := ts.flatMap put8L
theorem length_packL (ts : List ByteArray) : (packL ts).length = 8 * ts.length := by
  induction ts with
  | nil => rfl
  | cons t r ih =>
    show (put8L t ++ packL r).length = _
    rw [List.length_append, length_put8, ih, List.length_cons]; omega
theorem packL_take {ts : List ByteArray} {k : Nat} {t : ByteArray} (h : ts[k]? = some t) : packL (ts.take (k + 1)) = packL (ts.take k) ++ put8L t := by
  unfold packL
  rw [List.take_add_one, h, List.flatMap_append]
  simp
def rlT (x : Rl) : List ByteArray := [x.d0, x.d1, x.d2, x.s0, x.s1, x.s2]
def mbT (x : Mb) : List ByteArray := [x.st, x.rg]
def byteZ (n : Int) : ByteArray := ofL (putL (u64N n) 1)
def rowLk (x : Lk) : ByteArray := ofL (packL (lkT x))
def rowMb (x : Mb) : ByteArray := ofL (packL (mbT x))
def rowRl (x : Rl) : ByteArray := byteZ x.lv ++ byteZ x.co ++ byteZ (bitN x.ow : Int) ++ ofL (packL (rlT x))
theorem size_byteZ (n : Int) : (byteZ n).size = 1 := by unfold byteZ; rw [size_ofL, length_putL]
theorem size_rowLk (x : Lk) : (rowLk x).size = 48 := by unfold rowLk; rw [size_ofL, length_packL]; rfl
theorem size_rowMb (x : Mb) : (rowMb x).size = 16 := by unfold rowMb; rw [size_ofL, length_packL]; rfl
theorem size_rowRl (x : Rl) : (rowRl x).size = 51 := by
  unfold rowRl
  rw [ByteArray.size_append, ByteArray.size_append, ByteArray.size_append, size_byteZ, size_byteZ, size_byteZ, size_ofL, length_packL]; rfl

/-! The four kinds, by their numbers. -/
def IMAGE : ByteArray := ⟨#[105, 109, 97, 103, 101]⟩
def whN : Nat → ByteArray
  | 0 => ⟨#[97, 108, 105, 97, 115]⟩
  | 1 => ⟨#[108, 105, 107, 101, 108, 121]⟩
  | 2 => ⟨#[114, 117, 108, 101]⟩
  | _ => ⟨#[109, 101, 109, 98, 101, 114]⟩
def wdN : Nat → Nat
  | 0 => 41
  | 1 => 48
  | 2 => 0
  | _ => 16
def kyN : Nat → Nat
  | 0 => 17
  | 1 => 24
  | 2 => 0
  | _ => 16
def wdR : Nat → Nat
  | 0 => 41
  | 1 => 48
  | 2 => 51
  | _ => 16
def badL {α : Type} (p : α → Bool) (l : List α) : Option Nat := l.findIdx? fun x => !p x
def badN (im : Im) : Nat → Option Nat
  | 0 => badL rightA im.als
  | 1 => badL rightLk im.lks
  | 2 => badL rightRl im.rls
  | _ => badL rightMb im.mbs
def rowsN (im : Im) : Nat → List ByteArray
  | 0 => im.als.map rowB
  | 1 => im.lks.map rowLk
  | 2 => im.rls.map rowRl
  | _ => im.mbs.map rowMb
def cntN (im : Im) : Nat → Nat
  | 0 => im.als.length
  | 1 => im.lks.length
  | 2 => im.rls.length
  | _ => im.mbs.length
theorem rowsN_len (im : Im) (k : Nat) : (rowsN im k).length = cntN im k := by
  rcases k with _ | _ | _ | k <;> simp [rowsN, cntN]
theorem rowsN_size (im : Im) (k : Nat) : ∀ x ∈ rowsN im k, x.size = wdR k := by
  rcases k with _ | _ | _ | k <;> intro x hx <;> simp only [rowsN, List.mem_map] at hx <;> obtain ⟨y, -, rfl⟩ := hx
  · exact size_rowB y
  · exact size_rowLk y
  · exact size_rowRl y
  · exact size_rowMb y
def dupN (im : Im) : Nat → Bool
  | 2 => false
  | k => (badW (kyN k) (sortW (rowsN im k))).isSome
def partB (im : Im) : Nat → ByteArray
  | 2 => catW (rowsN im 2)
  | k => catW (sortW (rowsN im k))
theorem partB_size (im : Im) (k : Nat) : (partB im k).size = cntN im k * wdR k := by
  have h2 := cat_size (rowsN_size im 2)
  have hs := cat_size (sortW_size (rowsN_size im k))
  rw [sortW_len, rowsN_len] at hs
  rw [rowsN_len] at h2
  unfold partB
  split
  · exact h2
  · exact hs
def ISOG : ByteArray := ⟨#[105, 115, 111, 103]⟩
def headUp (im : Im) : Nat → ByteArray
  | 0 => ISOG
  | k + 1 => headUp im k ++ ofL (putL (cntN im k) 2)
theorem headUp_size (im : Im) (k : Nat) : (headUp im k).size = 4 + 2 * k := by
  induction k with
  | zero => rfl
  | succ k ih => show (headUp im k ++ _).size = _; rw [ByteArray.size_append, ih, size_ofL, length_putL]; omega
def headB (im : Im) : ByteArray := headUp im 4 ++ byteZ im.th ++ byteZ im.de
theorem headB_size (im : Im) : (headB im).size = 14 := by unfold headB; rw [ByteArray.size_append, ByteArray.size_append, headUp_size, size_byteZ, size_byteZ]
def outN (im : Im) : Nat → ByteArray
  | 0 => headB im
  | k + 1 => outN im k ++ partB im k
theorem outN_size (im : Im) : (outN im 4).size = 14 + cntN im 0 * 41 + cntN im 1 * 48 + cntN im 2 * 51 + cntN im 3 * 16 := by
  show (headB im ++ partB im 0 ++ partB im 1 ++ partB im 2 ++ partB im 3).size = _
  rw [ByteArray.size_append, ByteArray.size_append, ByteArray.size_append, ByteArray.size_append, headB_size, partB_size, partB_size, partB_size, partB_size]
  rfl
theorem outN_le (im : Im) (k : Nat) (hk : k ≤ 4) (hc : ∀ j, cntN im j ≤ 4000) : (outN im k).size ≤ 14 + k * 204000 := by
  induction k with
  | zero => show (headB im).size ≤ _; rw [headB_size]; omega
  | succ k ih =>
    show (outN im k ++ partB im k).size ≤ _
    rw [ByteArray.size_append, partB_size]
    have h1 := ih (by omega)
    have h2 : cntN im k * wdR k ≤ 4000 * 51 := Nat.mul_le_mul (hc k) (by rcases k with _ | _ | _ | k <;> simp [wdR])
    omega

/-! What Encode tells. -/
abbrev ErrT := Int × Int × ByteArray
def manyB (im : Im) : Bool := decide (4000 < cntN im 0 ∨ 4000 < cntN im 1 ∨ 4000 < cntN im 2 ∨ 4000 < cntN im 3)
def argB (im : Im) : Bool := decide (im.th < 0 ∨ im.de < 0 ∨ 255 < im.th ∨ 255 < im.de)
def wrongZ (im : Im) : Option ErrT := [0, 1, 2, 3].findSome? fun k => (badN im k).map fun i => (12, (i : Int), whN k)
def dupZ (im : Im) : Option ErrT := [0, 1, 2, 3].findSome? fun k => if dupN im k then some (13, 0, whN k) else none
def encE (im : Im) : Option ErrT :=
  if manyB im then some (16, 0, IMAGE) else if argB im then some (1, 0, IMAGE) else (wrongZ im).or (dupZ im)
def encB (im : Im) : ByteArray := if (encE im).isNone then outN im 4 else ⟨#[]⟩
theorem four (k : Nat) (h : k < 4) : k = 0 ∨ k = 1 ∨ k = 2 ∨ k = 3 := by omega
theorem wrongZ_at {im : Im} {k i : Nat} (hk : k < 4) (hp : ∀ j, j < k → badN im j = none) (h : badN im k = some i) : wrongZ im = some (12, (i : Int), whN k) := by
  rcases four k hk with rfl | rfl | rfl | rfl
  · simp [wrongZ, List.findSome?, h]
  · simp [wrongZ, List.findSome?, hp 0 (by decide), h]
  · simp [wrongZ, List.findSome?, hp 0 (by decide), hp 1 (by decide), h]
  · simp [wrongZ, List.findSome?, hp 0 (by decide), hp 1 (by decide), hp 2 (by decide), h]
theorem wrongZ_none {im : Im} (hp : ∀ j, j < 4 → badN im j = none) : wrongZ im = none := by
  simp [wrongZ, List.findSome?, hp 0 (by decide), hp 1 (by decide), hp 2 (by decide), hp 3 (by decide)]
theorem dupZ_at {im : Im} {k : Nat} (hk : k < 4) (hp : ∀ j, j < k → dupN im j = false) (h : dupN im k = true) : dupZ im = some (13, 0, whN k) := by
  rcases four k hk with rfl | rfl | rfl | rfl
  · simp [dupZ, List.findSome?, h]
  · simp [dupZ, List.findSome?, hp 0 (by decide), h]
  · simp [dupZ, List.findSome?, hp 0 (by decide), hp 1 (by decide), h]
  · simp [dupZ, List.findSome?, hp 0 (by decide), hp 1 (by decide), hp 2 (by decide), h]
theorem dupZ_none {im : Im} (hp : ∀ j, j < 4 → dupN im j = false) : dupZ im = none := by
  simp [dupZ, List.findSome?, hp 0 (by decide), hp 1 (by decide), hp 2 (by decide), hp 3 (by decide)]
theorem manyB_false {im : Im} (h : manyB im = false) (k : Nat) : cntN im k ≤ 4000 := by
  have h1 := of_decide_eq_false h
  have e : ∀ j, 3 ≤ j → cntN im j = cntN im 3 := fun j hj => by
    rcases j with _ | _ | _ | j
    · omega
    · omega
    · omega
    · rfl
  rcases Nat.lt_or_ge k 3 with h3 | h3
  · have : k = 0 ∨ k = 1 ∨ k = 2 := by omega
    rcases this with rfl | rfl | rfl <;> omega
  · rw [e k h3]; omega
theorem encE_many {im : Im} (h : manyB im = true) : encE im = some (16, 0, IMAGE) := by unfold encE; rw [if_pos h]
theorem encE_arg {im : Im} (h : manyB im = false) (h2 : argB im = true) : encE im = some (1, 0, IMAGE) := by unfold encE; rw [if_neg (by rw [h]; decide), if_pos h2]
theorem encE_rest {im : Im} (h : manyB im = false) (h2 : argB im = false) : encE im = (wrongZ im).or (dupZ im) := by unfold encE; rw [if_neg (by rw [h]; decide), if_neg (by rw [h2]; decide)]
theorem encB_none {im : Im} (h : encE im = none) : encB im = outN im 4 := by unfold encB; rw [h]; rfl
theorem encB_some {im : Im} {e : ErrT} (h : encE im = some e) : encB im = ⟨#[]⟩ := by unfold encB; rw [h]; rfl

/-- What Build tells of rows of so many bytes. -/
theorem buildE_dup {W K : Nat} {l : List ByteArray} (h1 : 0 < K) (h2 : K ≤ W) (h3 : W ≤ 255) (h : ∀ x ∈ l, x.size = W) : buildE (W : Int) (K : Int) l (catW (sortW l)) = (badW K (sortW l)).map fun i => (13, ((i * W : Nat) : Int)) := by
  have hs := sortW_size h
  rw [buildE_ok (by omega)]
  have ho : oddW (W : Int) l = none := List.findIdx?_eq_none_iff.2 fun x hx => by simp [h x hx]
  rw [ho]
  show newE _ _ _ = _
  rw [newE_order h1 h2 h3 (by rw [cat_size hs, Nat.mul_mod_left]), rows_cat (by omega) hs]
  cases badW K (sortW l) <;> rfl
end Go.Proofs.YtlpjdknmnomdlaaGreatDoor
