/-
  Images as texts: likely rows, rules and members, which are right, their rows; an image's bytes, or what is wrong with it (plain mathematics). Package image: what may be: texts in small letters, names of sets, places, sides of rules, rules, members. (Printed by wip/gen_zright.py.) Package image: the places of texts, texts packed, and the closures that make rows of things. Package image: things in memory, faults, and what the rows of one kind of things are.
-/
import Derived.Test.YtbafmnafhaoggaaGreatDoorYMath
import Derived.Test.YtbafmnafhaoggaaGreatDoorWBuilds
import Derived.Test.YtbafmnafhaoggaaGreatDoorYRights
import Derived.Test.YtbafmnafhaoggaaGreatDoorCPacks
import Derived.Test.YtbafmnafhaoggaaGreatDoorBuild
import Derived.Test.YtbafmnafhaoggaaGreatDoorShelf
import Derived.BigRegion
import Derived.Deep.RegionHeld3
import Derived.Test.YtbafmnafhaoggaaGreatDoorWAll
import Derived.OneCell
/-! Images as texts: likely rows, rules and members, which are right, their rows; an image's bytes, or what is wrong with it (plain mathematics). -/
namespace Go.Proofs.YtbafmnafhaoggaaGreatDoor
open Go Go.RowKit

structure Lk where
  l : ByteArray
  s : ByteArray
  r : ByteArray
  tl : ByteArray
  ts : ByteArray
  tr : ByteArray
structure Rl where
  lv : Int
  co : Int
  ow : Bool
  d0 : ByteArray
  d1 : ByteArray
  d2 : ByteArray
  s0 : ByteArray
  s1 : ByteArray
  s2 : ByteArray
structure Mb where
  st : ByteArray
  rg : ByteArray
/-- An image. -/
structure Im where
  als : List Al
  lks : List Lk
  rls : List Rl
  mbs : List Mb
  th : Int
  de : Int

/-! What may be. -/
def UND : ByteArray := ⟨#[117, 110, 100]⟩
def STAR : ByteArray := ⟨#[42]⟩
def nameS (s : ByteArray) : Bool := decide (s.size ≤ 7) && (alnumS s && smallS s)
def markS (s : ByteArray) : Bool := if h : 0 < s.size then (decide (s[0].toNat = 36) || decide (s[0].toNat = 33)) else false
def placeS (s : ByteArray) : Bool := if markS s then nameS (s.extract 1 s.size) else regionS s
def lkT (x : Lk) : List ByteArray := [x.l, x.s, x.r, x.tl, x.ts, x.tr]
def rightLk (x : Lk) : Bool := (lkT x).all smallS && (languageS x.l && (maybeS scriptS x.s && (maybeS regionS x.r && (languageS x.tl && (!decide (x.tl = UND) && (scriptS x.ts && regionS x.tr))))))
def fitK : Nat → ByteArray → Bool
  | 0 => languageS
  | 1 => scriptS
  | _ => placeS
def sideOne (lv : Int) (k : Nat) (s : ByteArray) : Bool := if lv ≤ (k : Int) then decide (s.size = 0) else decide (s = STAR) || (fitK k s && smallS s)
def sideS (lv : Int) (a b c : ByteArray) : Bool := sideOne lv 0 a && (sideOne lv 1 b && sideOne lv 2 c)
def rightRl (x : Rl) : Bool := decide (1 ≤ x.lv) && (decide (x.lv ≤ 3) && (decide (0 ≤ x.co) && (decide (x.co ≤ 100) && (sideS x.lv x.d0 x.d1 x.d2 && sideS x.lv x.s0 x.s1 x.s2))))
def rightMb (x : Mb) : Bool := nameS x.st && (regionS x.rg && smallS x.rg)

/-! Rows. -/
def u64N (n : Int) : Nat := (IntKind.u64.wrap n).toNat
theorem u64N_cast (n : Int) : IntKind.u64.wrap n = ((u64N n : Nat) : Int) := by
  have h : 0 ≤ IntKind.u64.wrap n := by
    show 0 ≤ n % (2 ^ 64 : Int)
    exact Int.emod_nonneg _ (by decide)
  unfold u64N
  rw [Int.toNat_of_nonneg h]
def bitN (b : Bool) : Nat := if b then 1 else 0
def packL (ts : List ByteArray) : List UInt8 := ts.flatMap put8L
theorem length_packL (ts : List ByteArray) : (packL ts).length = 8 * ts.length := by
  induction ts with
  | nil => rfl
  | cons t r ih =>
    show (put8L t ++ packL r).length = _
    rw [List.length_append, length_put8, ih, List.length_cons]; omega
theorem packL_take {ts : List ByteArray} {k : Nat} {t : ByteArray} (h : ts[k]? = some t) : packL (ts.take (k + 1)) = packL (ts.take k) ++ put8L t := by
  unfold packL
  rw [List.take_add_one, h, List.flatMap_append]
  simp
def rlT (x : Rl) : List ByteArray := [x.d0, x.d1, x.d2, x.s0, x.s1, x.s2]
def mbT (x : Mb) : List ByteArray := [x.st, x.rg]
def byteZ (n : Int) : ByteArray := ofL (putL (u64N n) 1)
def rowLk (x : Lk) : ByteArray := ofL (packL (lkT x))
def rowMb (x : Mb) : ByteArray := ofL (packL (mbT x))
def rowRl (x : Rl) : ByteArray := byteZ x.lv ++ byteZ x.co ++ byteZ (bitN x.ow : Int) ++ ofL (packL (rlT x))
theorem size_byteZ (n : Int) : (byteZ n).size = 1 := by unfold byteZ; rw [size_ofL, length_putL]
theorem size_rowLk (x : Lk) : (rowLk x).size = 48 := by unfold rowLk; rw [size_ofL, length_packL]; rfl
theorem size_rowMb (x : Mb) : (rowMb x).size = 16 := by unfold rowMb; rw [size_ofL, length_packL]; rfl
theorem size_rowRl (x : Rl) : (rowRl x).size = 51 := by
  unfold rowRl
  rw [ByteArray.size_append, ByteArray.size_append, ByteArray.size_append, size_byteZ, size_byteZ, size_byteZ, size_ofL, length_packL]; rfl

/-! The four kinds, by their numbers. -/
def IMAGE : ByteArray := ⟨#[105, 109, 97, 103, 101]⟩
def whN : Nat → ByteArray
  | 0 => ⟨#[97, 108, 105, 97, 115]⟩
  | 1 => ⟨#[108, 105, 107, 101, 108, 121]⟩
  | 2 => ⟨#[114, 117, 108, 101]⟩
  | _ => ⟨#[109, 101, 109, 98, 101, 114]⟩
def wdN : Nat → Nat
  | 0 => 41
  | 1 => 48
  | 2 => 0
  | _ => 16
def kyN : Nat → Nat
  | 0 => 17
  | 1 => 24
  | 2 => 0
  | _ => 16
def wdR : Nat → Nat
  | 0 => 41
  | 1 => 48
  | 2 => 51
  | _ => 16
def badL {α : Type} (p : α → Bool) (l : List α) : Option Nat := l.findIdx? fun x => !p x
def badN (im : Im) : Nat → Option Nat
  | 0 => badL rightA im.als
  | 1 => badL rightLk im.lks
  | 2 => badL rightRl im.rls
  | _ => badL rightMb im.mbs
def rowsN (im : Im) : Nat → List ByteArray
  | 0 => im.als.map rowB
  | 1 => im.lks.map rowLk
  | 2 => im.rls.map rowRl
  | _ => im.mbs.map rowMb
def cntN (im : Im) : Nat → Nat
  | 0 => im.als.length
  | 1 => im.lks.length
  | 2 => im.rls.length
  | _ => im.mbs.length
theorem rowsN_len (im : Im) (k : Nat) : (rowsN im k).length = cntN im k := by
  rcases k with _ | _ | _ | k <;> simp [rowsN, cntN]
theorem rowsN_size (im : Im) (k : Nat) : ∀ x ∈ rowsN im k, x.size = wdR k := by
  rcases k with _ | _ | _ | k <;> intro x hx <;> simp only [rowsN, List.mem_map] at hx <;> obtain ⟨y, -, rfl⟩ := hx
  · exact size_rowB y
  · exact size_rowLk y
  · exact size_rowRl y
  · exact size_rowMb y
def dupN (im : Im) : Nat → Bool
  | 2 => false
  | k => (badW (kyN k) (sortW (rowsN im k))).isSome
def partB (im : Im) : Nat → ByteArray
  | 2 => catW (rowsN im 2)
  | k => catW (sortW (rowsN im k))
theorem partB_size (im : Im) (k : Nat) : (partB im k).size = cntN im k * wdR k := by
  have h2 := cat_size (rowsN_size im 2)
  have hs := cat_size (sortW_size (rowsN_size im k))
  rw [sortW_len, rowsN_len] at hs
  rw [rowsN_len] at h2
  unfold partB
  split
  · exact h2
  · exact hs
def ISOG : ByteArray := ⟨#[105, 115, 111, 103]⟩
def headUp (im : Im) : Nat → ByteArray
  | 0 => ISOG
  | k + 1 => headUp im k ++ ofL (putL (cntN im k) 2)
theorem headUp_size (im : Im) (k : Nat) : (headUp im k).size = 4 + 2 * k := by
  induction k with
  | zero => rfl
  | succ k ih => show (headUp im k ++ _).size = _; rw [ByteArray.size_append, ih, size_ofL, length_putL]; omega
def headB (im : Im) : ByteArray := headUp im 4 ++ byteZ im.th ++ byteZ im.de
theorem headB_size (im : Im) : (headB im).size = 14 := by unfold headB; rw [ByteArray.size_append, ByteArray.size_append, headUp_size, size_byteZ, size_byteZ]
def outN (im : Im) : Nat → ByteArray
  | 0 => headB im
  | k + 1 => outN im k ++ partB im k
theorem outN_size (im : Im) : (outN im 4).size = 14 + cntN im 0 * 41 + cntN im 1 * 48 + cntN im 2 * 51 + cntN im 3 * 16 := by
  show (headB im ++ partB im 0 ++ partB im 1 ++ partB im 2 ++ partB im 3).size = _
  rw [ByteArray.size_append, ByteArray.size_append, ByteArray.size_append, ByteArray.size_append, headB_size, partB_size, partB_size, partB_size, partB_size]
  rfl
theorem outN_le (im : Im) (k : Nat) (hk : k ≤ 4) (hc : ∀ j, cntN im j ≤ 4000) : (outN im k).size ≤ 14 + k * 204000 := by
  induction k with
  | zero => show (headB im).size ≤ _; rw [headB_size]; omega
  | succ k ih =>
    show (outN im k ++ partB im k).size ≤ _
    rw [ByteArray.size_append, partB_size]
    have h1 := ih (by omega)
    have h2 : cntN im k * wdR k ≤ 4000 * 51 := Nat.mul_le_mul (hc k) (by rcases k with _ | _ | _ | k <;> simp [wdR])
    omega

/-! What Encode tells. -/
abbrev ErrT := Int × Int × ByteArray
def manyB (im : Im) : Bool := decide (4000 < cntN im 0 ∨ 4000 < cntN im 1 ∨ 4000 < cntN im 2 ∨ 4000 < cntN im 3)
def argB (im : Im) : Bool := decide (im.th < 0 ∨ im.de < 0 ∨ 255 < im.th ∨ 255 < im.de)
def wrongZ (im : Im) : Option ErrT := [0, 1, 2, 3].findSome? fun k => (badN im k).map fun i => (12, (i : Int), whN k)
def dupZ (im : Im) : Option ErrT := [0, 1, 2, 3].findSome? fun k => if dupN im k then some (13, 0, whN k) else none
def encE (im : Im) : Option ErrT :=
  if manyB im then some (16, 0, IMAGE) else if argB im then some (1, 0, IMAGE) else (wrongZ im).or (dupZ im)
def encB (im : Im) : ByteArray := if (encE im).isNone then outN im 4 else ⟨#[]⟩
theorem four (k : Nat) (h : k < 4) : k = 0 ∨ k = 1 ∨ k = 2 ∨ k = 3 := by omega
theorem wrongZ_at {im : Im} {k i : Nat} (hk : k < 4) (hp : ∀ j, j < k → badN im j = none) (h : badN im k = some i) : wrongZ im = some (12, (i : Int), whN k) := by
  rcases four k hk with rfl | rfl | rfl | rfl
  · simp [wrongZ, List.findSome?, h]
  · simp [wrongZ, List.findSome?, hp 0 (by decide), h]
  · simp [wrongZ, List.findSome?, hp 0 (by decide), hp 1 (by decide), h]
  · simp [wrongZ, List.findSome?, hp 0 (by decide), hp 1 (by decide), hp 2 (by decide), h]
theorem wrongZ_none {im : Im} (hp : ∀ j, j < 4 → badN im j = none) : wrongZ im = none := by
  simp [wrongZ, List.findSome?, hp 0 (by decide), hp 1 (by decide), hp 2 (by decide), hp 3 (by decide)]
theorem dupZ_at {im : Im} {k : Nat} (hk : k < 4) (hp : ∀ j, j < k → dupN im j = false) (h : dupN im k = true) : dupZ im = some (13, 0, whN k) := by
  rcases four k hk with rfl | rfl | rfl | rfl
  · simp [dupZ, List.findSome?, h]
  · simp [dupZ, List.findSome?, hp 0 (by decide), h]
  · simp [dupZ, List.findSome?, hp 0 (by decide), hp 1 (by decide), h]
  · simp [dupZ, List.findSome?, hp 0 (by decide), hp 1 (by decide), hp 2 (by decide), h]
theorem dupZ_none {im : Im} (hp : ∀ j, j < 4 → dupN im j = false) : dupZ im = none := by
  simp [dupZ, List.findSome?, hp 0 (by decide), hp 1 (by decide), hp 2 (by decide), hp 3 (by decide)]
theorem manyB_false {im : Im} (h : manyB im = false) (k : Nat) : cntN im k ≤ 4000 := by
  have h1 := of_decide_eq_false h
  have e : ∀ j, 3 ≤ j → cntN im j = cntN im 3 := fun j hj => by
    rcases j with _ | _ | _ | j
    · omega
    · omega
    · omega
    · rfl
  rcases Nat.lt_or_ge k 3 with h3 | h3
  · have : k = 0 ∨ k = 1 ∨ k = 2 := by omega
    rcases this with rfl | rfl | rfl <;> omega
  · rw [e k h3]; omega
theorem encE_many {im : Im} (h : manyB im = true) : encE im = some (16, 0, IMAGE) := by unfold encE; rw [if_pos h]
theorem encE_rest {im : Im} (h : manyB im = false) (h2 : argB im = false) : encE im = (wrongZ im).or (dupZ im) := by unfold encE; rw [if_neg (by rw [h]; decide), if_neg (by rw [h2]; decide)]
theorem encB_none {im : Im} (h : encE im = none) : encB im = outN im 4 := by unfold encB; rw [h]; rfl
theorem encB_some {im : Im} {e : ErrT} (h : encE im = some e) : encB im = ⟨#[]⟩ := by unfold encB; rw [h]; rfl

/-- What Build tells of rows of so many bytes. -/
theorem buildE_dup {W K : Nat} {l : List ByteArray} (h1 : 0 < K) (h2 : K ≤ W) (h3 : W ≤ 255) (h : ∀ x ∈ l, x.size = W) : buildE (W : Int) (K : Int) l (catW (sortW l)) = (badW K (sortW l)).map fun i => (13, ((i * W : Nat) : Int)) := by
  have hs := sortW_size h
  rw [buildE_ok (by omega)]
  have ho : oddW (W : Int) l = none := List.findIdx?_eq_none_iff.2 fun x hx => by simp [h x hx]
  rw [ho]
  show newE _ _ _ = _
  rw [newE_order h1 h2 h3 (by rw [cat_size hs, Nat.mul_mod_left]), rows_cat (by omega) hs]
  cases badW K (sortW l) <;> rfl
end Go.Proofs.YtbafmnafhaoggaaGreatDoor

/-! Package image: what may be: texts in small letters, names of sets, places, sides of rules, rules, members. (Printed by wip/gen_zright.py.) -/
namespace Go.Proofs.YtbafmnafhaoggaaGreatDoor
open Go Go.RowKit

theorem inSmall_any (s : ByteArray) (w : World) (hs : s.size ≤ 1048576) :
    Calls Tryz.prog 81 #[.string s] w fun e w' => e = .returned (.bool (smallS s)) ∧ Below w.heap.size w w' := by
  have HL := Lib.hid (fun w5 => lower_text s w5 (by omega))
  have HE := Lib.hid (same_bool s (lowS s))
  go_enter Tryz.func81, Tryz.ntmps81
  go_wp2_with (go_at_call 100; (with_reducible refine (HL.out _).mono ?_); rintro e w5 ⟨rfl, hb5⟩)
  go_ret
  exact ⟨ret_bool HE.out, by assumption⟩

set_option maxRecDepth 100000 in
theorem setName_any (s : ByteArray) (w : World) (hs : s.size ≤ 1048576) :
    Calls Tryz.prog 86 #[.string s] w fun e w' => e = .returned (.bool (nameS s)) ∧ Below w.heap.size w w' := by
  have hB0 : Below w.heap.size w w := Below.refl _ _
  have HA := onward w (fun w5 => alnum_any s w5 (by unfold maxLen; omega))
  have HS := onward w (fun w5 => inSmall_any s w5 hs)
  have HM := Lib.hid (show nameS s = (decide (s.size ≤ 7) && (alnumS s && smallS s)) from rfl)
  generalize alnumS s = q at *
  generalize smallS s = r at *
  by_cases h1 : s.size ≤ 7
  · have h1' : (s.size : Int) ≤ 7 := by omega
    rw [decide_eq_true h1] at HM
    clear h1 hs
    cases q <;>
    · go_enter Tryz.func86, Tryz.ntmps86
      go_wp2_with (first | (go_at_call 107; (with_reducible refine (HA.out _ (by assumption)).mono ?_); rintro e w5 ⟨rfl, hb5⟩) | (go_at_call 81; (with_reducible refine (HS.out _ (by assumption)).mono ?_); rintro e w6 ⟨rfl, hb6⟩))
      go_ret
      exact ⟨ret_bool HM.out.symm, by assumption⟩
  · have h1' : ¬ (s.size : Int) ≤ 7 := by omega
    rw [decide_eq_false h1] at HM
    clear h1 hs
    go_enter Tryz.func86, Tryz.ntmps86
    go_wp2
    go_ret
    exact ⟨ret_bool HM.out.symm, hB0⟩

theorem markS_pos {s : ByteArray} (h : 0 < s.size) : markS s = (decide (s[0].toNat = 36) || decide (s[0].toNat = 33)) := by unfold markS; rw [dif_pos h]
set_option maxRecDepth 100000 in
theorem place_any (s : ByteArray) (w : World) (hs : s.size ≤ 1048576) :
    Calls Tryz.prog 106 #[.string s] w fun e w' => e = .returned (.bool (placeS s)) ∧ Below w.heap.size w w' := by
  have hB0 : Below w.heap.size w w := Below.refl _ _
  have HR := onward w (fun w5 => region_own s w5 (by unfold maxLen; omega))
  have HN := onward w (fun w5 => setName_any (s.extract 1 s.size) w5 (by rw [ByteArray.size_extract]; omega))
  have HM := Lib.hid (show placeS s = if markS s then nameS (s.extract 1 s.size) else regionS s from rfl)
  by_cases h0 : s.size = 0
  · have he := empty_true h0
    have hk : markS s = false := by unfold markS; rw [dif_neg (by omega)]
    rw [hk] at HM
    clear h0 hs hk
    go_enter Tryz.func106, Tryz.ntmps106
    go_wp2_with (go_at_call 84; (with_reducible refine (HR.out _ (by assumption)).mono ?_); rintro e w5 ⟨rfl, hb5⟩)
    go_ret
    exact ⟨ret_bool HM.out.symm, by assumption⟩
  · have h0' : 0 < s.size := by omega
    have he := empty_false h0'
    have h1 : (1 : Int) ≤ (s.size : Int) := by omega
    have hp := markS_pos h0'
    by_cases hc : s[0].toNat = 36
    · have hk : markS s = true := by rw [hp, decide_eq_true hc]; rfl
      have hq : ((s[0].toNat : Int) == 36) = true := by rw [beq_iff_eq]; omega
      rw [hk] at HM
      clear h0 hs hk hp hc
      go_enter Tryz.func106, Tryz.ntmps106
      go_wp2_with (go_at_call 86; (with_reducible refine (HN.out _ (by assumption)).mono ?_); rintro e w5 ⟨rfl, hb5⟩)
      go_ret
      exact ⟨ret_bool HM.out.symm, by assumption⟩
    · have hq : ((s[0].toNat : Int) == 36) = false := by rw [beq_eq_false_iff_ne]; omega
      by_cases hd : s[0].toNat = 33
      · have hk : markS s = true := by rw [hp, decide_eq_true hd, Bool.or_true]
        have hr : ((s[0].toNat : Int) == 33) = true := by rw [beq_iff_eq]; omega
        rw [hk] at HM
        clear h0 hs hk hp hc hd
        go_enter Tryz.func106, Tryz.ntmps106
        go_wp2_with (go_at_call 86; (with_reducible refine (HN.out _ (by assumption)).mono ?_); rintro e w5 ⟨rfl, hb5⟩)
        go_ret
        exact ⟨ret_bool HM.out.symm, by assumption⟩
      · have hk : markS s = false := by rw [hp, decide_eq_false hc, decide_eq_false hd]; rfl
        have hr : ((s[0].toNat : Int) == 33) = false := by rw [beq_eq_false_iff_ne]; omega
        rw [hk] at HM
        clear h0 hs hk hp hc hd
        go_enter Tryz.func106, Tryz.ntmps106
        go_wp2_with (go_at_call 84; (with_reducible refine (HR.out _ (by assumption)).mono ?_); rintro e w5 ⟨rfl, hb5⟩)
        go_ret
        exact ⟨ret_bool HM.out.symm, by assumption⟩

/-! The sides of a rule. -/
def upZ (lv : Int) (a b c : ByteArray) : Nat → Bool
  | 0 => true
  | 1 => sideOne lv 0 a
  | 2 => sideOne lv 0 a && sideOne lv 1 b
  | _ => sideOne lv 0 a && (sideOne lv 1 b && sideOne lv 2 c)
def sdT (a b c : ByteArray) : Nat → ByteArray
  | 0 => a
  | 1 => b
  | _ => c
theorem upZ_false {lv : Int} {a b c : ByteArray} {k : Nat} (hk : k < 3) (h : sideOne lv k (sdT a b c k) = false) : sideS lv a b c = false := by
  unfold sideS
  have h3 : k = 0 ∨ k = 1 ∨ k = 2 := by omega
  rcases h3 with rfl | rfl | rfl
  · rw [show sideOne lv 0 a = false from h]; rfl
  · rw [show sideOne lv 1 b = false from h]; simp
  · rw [show sideOne lv 2 c = false from h]; simp
theorem upZ_true {lv : Int} {a b c : ByteArray} {k : Nat} (hk : k < 3) (hu : upZ lv a b c k = true) (h : sideOne lv k (sdT a b c k) = true) : upZ lv a b c (k + 1) = true := by
  have h3 : k = 0 ∨ k = 1 ∨ k = 2 := by omega
  rcases h3 with rfl | rfl | rfl
  · exact h
  · show (sideOne lv 0 a && sideOne lv 1 b) = true
    rw [show sideOne lv 0 a = true from hu, show sideOne lv 1 b = true from h]; rfl
  · have hu' : (sideOne lv 0 a && sideOne lv 1 b) = true := hu
    rw [Bool.and_eq_true] at hu'
    show (sideOne lv 0 a && (sideOne lv 1 b && sideOne lv 2 c)) = true
    rw [hu'.1, hu'.2, show sideOne lv 2 c = true from h]; rfl
theorem side_out {lv : Int} {k : Nat} (s : ByteArray) (h : lv ≤ (k : Int)) : sideOne lv k s = decide (s.size = 0) := by unfold sideOne; rw [if_pos h]
theorem side_in {lv : Int} {k : Nat} (s : ByteArray) (h : ¬ lv ≤ (k : Int)) : sideOne lv k s = (decide (s = STAR) || (fitK k s && smallS s)) := by unfold sideOne; rw [if_neg h]
def fitF : Nat → FuncId
  | 0 => 82
  | 1 => 83
  | _ => 106
theorem fit_call (k : Nat) (hk : k < 3) : Enters Tryz.prog (fitF k) ∧ ∀ s : ByteArray, s.size ≤ 1000 → ∀ w, Calls Tryz.prog (fitF k) #[.string s] w fun e w' => e = .returned (.bool (fitK k s)) ∧ Below w.heap.size w w' := by
  have h3 : k = 0 ∨ k = 1 ∨ k = 2 := by omega
  rcases h3 with rfl | rfl | rfl
  · exact ⟨Go.Proofs.enters_of Tryz.func82 (by kernel_rfl) rfl, fun s hs w => language_own s w (by unfold maxLen; omega)⟩
  · exact ⟨Go.Proofs.enters_of Tryz.func83 (by kernel_rfl) rfl, fun s hs w => script_own s w (by unfold maxLen; omega)⟩
  · exact ⟨Go.Proofs.enters_of Tryz.func106 (by kernel_rfl) rfl, fun s hs w => place_any s w (by omega)⟩
theorem sd_index (a b c : ByteArray) (k : Nat) (hk : k < 3) (t : ByteArray) (ht : sdT a b c k = t) (w : World) : (Instr.index 76 (.agg #[.string a, .string b, .string c]) (.int .i64 (k : Int))).run Tryz.prog w = .ok (.string t) w := by
  subst ht
  have h3 : k = 0 ∨ k = 1 ∨ k = 2 := by omega
  rcases h3 with rfl | rfl | rfl <;> (show _ = _; kernel_rfl)
theorem cells3Z {W : World} {B : Nat} {a b c : Value} {t : TypeId} (h : W.heap[B]? = some (.cells #[a, b, c] t (0, 0))) :
    W.cell? ⟨B, 0, none⟩ = some a ∧ W.cell? ⟨B, 1, none⟩ = some b ∧ W.cell? ⟨B, 2, none⟩ = some c := by simp [World.cell?, h]
theorem sto3 {P : Program} {w : World} {B : Nat} {t : TypeId} {a0 a1 a2 : Value} (h : w.heap[B]? = some (.cells #[a0, a1, a2] t (0, 0))) {b0 b1 b2 : Value} (v0 : b0.oneCell' = true) (v1 : b1.oneCell' = true) (v2 : b2.oneCell' = true) :
    ∃ W1 W2 W3, (store ⟨B, 0, none⟩ b0).run P w = .ok () W1 ∧ (store ⟨B, 1, none⟩ b1).run P W1 = .ok () W2 ∧ (store ⟨B, 2, none⟩ b2).run P W2 = .ok () W3 ∧ W3.heap[B]? = some (.cells #[b0, b1, b2] t (0, 0)) ∧ ∀ B0, B0 ≤ B → Below B0 w W3 := by
  have e0 : (w.setCell ⟨B, 0, none⟩ b0).heap[B]? = some (.cells #[b0, a1, a2] t (0, 0)) := setY h b0
  have e1 : ((w.setCell ⟨B, 0, none⟩ b0).setCell ⟨B, 1, none⟩ b1).heap[B]? = some (.cells #[b0, b1, a2] t (0, 0)) := setY e0 b1
  have e2 : (((w.setCell ⟨B, 0, none⟩ b0).setCell ⟨B, 1, none⟩ b1).setCell ⟨B, 2, none⟩ b2).heap[B]? = some (.cells #[b0, b1, b2] t (0, 0)) := setY e1 b2
  exact ⟨_, _, _, store_cell h (by simp) v0, store_cell e0 (by simp) v1, store_cell e1 (by simp) v2, e2, fun B0 hB => (((Below.refl B0 w).setCell (p := ⟨B, 0, none⟩) hB b0).setCell (p := ⟨B, 1, none⟩) hB b1).setCell (p := ⟨B, 2, none⟩) hB b2⟩
set_option maxRecDepth 100000 in
set_option maxHeartbeats 4000000 in
theorem side_any (a b c : ByteArray) (lv : Int) (w : World) (ha : a.size ≤ 1000) (hb : b.size ≤ 1000) (hc : c.size ≤ 1000) :
    Calls Tryz.prog 85 #[.agg #[.string a, .string b, .string c], .int .i64 lv] w fun e w' => e = .returned (.bool (sideS lv a b c)) ∧ Below w.heap.size w w' := by
  have hA0 : ((w.alloc (.cells #[.string a, .string b, .string c] 76)).alloc (.cells #[.nilFunc, .nilFunc, .nilFunc] 174)).heap[w.heap.size + 1]? = some (.cells #[.nilFunc, .nilFunc, .nilFunc] 174 (0, 0)) := heap_alloc2_new w _ _
  have hA1 : ((w.alloc (.cells #[.string a, .string b, .string c] 76)).alloc (.cells #[.nilFunc, .nilFunc, .nilFunc] 174)).heap[w.heap.size]? = some (.cells #[.string a, .string b, .string c] 76 (0, 0)) := (Below.heap_alloc _ _ _ (by simp)).trans (World.alloc_heap_new w _)
  obtain ⟨V1, V2, W1, s1, s2, s3, hF, hbb⟩ := sto3 (P := Tryz.prog) hA0 (b0 := .func (.func 82) #[] #[]) (b1 := .func (.func 83) #[] #[]) (b2 := .func (.func 106) #[] #[]) rfl rfl rfl
  have hb1 : Below w.heap.size w W1 := (((Below.refl _ w).alloc (Nat.le_refl _) _).alloc (by simp) _).trans (hbb w.heap.size (by omega))
  have hA : W1.heap[w.heap.size]? = some (.cells #[.string a, .string b, .string c] 76 (0, 0)) := ((hbb (w.heap.size + 1) (Nat.le_refl _)).block _ (by omega)).trans hA1
  clear hA0 hA1 hbb
  have HA := Lib.hid (cells3Z hA)
  have HF := Lib.hid (fun k (hk : k < 3) w' (h : Below W1.heap.size W1 w') => show w'.cell? ⟨w.heap.size + 1, k, none⟩ = some (.func (.func (fitF k)) #[] #[]) from by
    obtain ⟨c0, c1, c2⟩ := cells3Z ((h.block _ (lt_of_block hF)).trans hF)
    have h3 : k = 0 ∨ k = 1 ∨ k = 2 := by omega
    rcases h3 with rfl | rfl | rfl
    · exact c0
    · exact c1
    · exact c2)
  have HB := Lib.hid (fun w' (h : Below W1.heap.size W1 w') => hb1.trans (h.mono hb1.size))
  have HT := Lib.hid (fun k => show (sdT a b c k).size ≤ 1000 from by rcases k with _ | _ | k <;> assumption)
  have HU := Lib.hid (show upZ lv a b c 3 = sideS lv a b c from rfl)
  clear hb1 hA hF ha hb hc
  have q := HA.out
  obtain ⟨q0, q1, q2⟩ := q
  go_enter Tryz.func85, Tryz.ntmps85
  go_upto_region 2 with fail
  go_wp2_with fail
  clear q0 q1 q2 s1 s2 s3 HA
  go_loopw [6, 7, 10] (fun _ _ i wr => ∃ k : Nat, k ≤ 3 ∧ i = .int .i64 (k : Int) ∧ upZ lv a b c k = true ∧ Below W1.heap.size W1 wr) (fun _ _ i _ => 3 - (intOf i).toNat)
  case atStart => exact ⟨0, Nat.zero_le _, rfl, rfl, Below.refl _ _⟩
  case round =>
    obtain ⟨k, hk, rfl, hu, hR⟩ := hrel
    by_cases hlt : k < 3
    · have hlt' : (k : Int) < 3 := by omega
      have hk0 : (0 : Int) ≤ (k : Int) := by omega
      obtain ⟨t, ht⟩ : ∃ t, sdT a b c k = t := ⟨_, rfl⟩
      have hz := HT.out k
      rw [ht] at hz
      have hix := sd_index a b c k hlt t ht wr
      have HFALSE := Lib.hid (fun h : sideOne lv k t = false => upZ_false hlt (show sideOne lv k (sdT a b c k) = false by rw [ht]; exact h))
      have HTRUE := Lib.hid (fun h : sideOne lv k t = true => upZ_true hlt hu (show sideOne lv k (sdT a b c k) = true by rw [ht]; exact h))
      clear ht hu HT
      by_cases hl : lv ≤ (k : Int)
      · by_cases hs : t.size = 0
        · have he := empty_true hs
          have HS := Lib.hid (HTRUE.out (by rw [side_out t hl, decide_eq_true hs]))
          clear hs HFALSE HTRUE
          go_wp2
          go_roundw
          case rel => exact ⟨k + 1, by omega, by go_num, HS.out, hR⟩
          case measure => simp [intOf]; omega
        · have he := empty_false (show 0 < t.size by omega)
          have HS := Lib.hid (HFALSE.out (by rw [side_out t hl, decide_eq_false hs]))
          clear hs HFALSE HTRUE
          go_wp2
          go_ret
          exact ⟨ret_bool HS.out.symm, HB.out _ hR⟩
      · by_cases hst : t = STAR
        · have HS := Lib.hid (HTRUE.out (by rw [side_in t hl, decide_eq_true hst]; rfl))
          subst hst
          clear HFALSE HTRUE
          have hx : (STAR.toList == STAR.toList) = true := beq_self_eq_true _
          unfold STAR at *
          go_wp2
          go_roundw
          case rel => exact ⟨k + 1, by omega, by go_num, HS.out, hR⟩
          case measure => simp [intOf]; omega
        · have hx : (t.toList == ({ data := #[42] } : ByteArray).toList) = false := texts_ne hst
          have hx2 : (t.toList == [42]) = false := by
            rw [show (({ data := #[42] } : ByteArray).toList) = [42] from by rw [ByteArray.toList_eq]] at hx
            exact hx
          have hf := HF.out k hlt wr hR
          obtain ⟨E, C⟩ := fit_call k hlt
          have HC := Lib.hid (fun w' (h : Below W1.heap.size W1 w') => (C t hz w').mono (R' := fun e w'' => e = .returned (.bool (fitK k t)) ∧ Below W1.heap.size W1 w'') fun e w'' ⟨p, q⟩ => ⟨p, h.trans (q.mono h.size)⟩)
          have HS := Lib.hid (fun w' (h : Below W1.heap.size W1 w') => (inSmall_any t w' (by omega)).mono (R' := fun e w'' => e = .returned (.bool (smallS t)) ∧ Below W1.heap.size W1 w'') fun e w'' ⟨p, q⟩ => ⟨p, h.trans (q.mono h.size)⟩)
          have HV := Lib.hid (show sideOne lv k t = (fitK k t && smallS t) by rw [side_in t hl, decide_eq_false hst]; rfl)
          have E5 : ∀ args w, (callFunc (fitF k) args).run Tryz.prog w = .ok (.enter (fitF k) args) w := E
          generalize fitK k t = p1 at *
          generalize smallS t = p2 at *
          generalize fitF k = FF at *
          clear C E hst hz
          cases p1 with
          | false =>
            have HS2 := Lib.hid (HFALSE.out (by rw [HV.out]; rfl))
            clear HFALSE HTRUE HV
            go_wp2_with ((with_reducible refine (HC.out _ hR).mono ?_); rintro e w5 ⟨rfl, hb5⟩)
            go_ret
            exact ⟨ret_bool HS2.out.symm, HB.out _ hb5⟩
          | true =>
            cases p2 with
            | false =>
              have HS2 := Lib.hid (HFALSE.out (by rw [HV.out]; rfl))
              clear HFALSE HTRUE HV
              go_wp2_with (first | (go_at_call 81; (with_reducible refine (HS.out _ hb5).mono ?_); rintro e w6 ⟨rfl, hb6⟩) | ((with_reducible refine (HC.out _ hR).mono ?_); rintro e w5 ⟨rfl, hb5⟩))
              go_ret
              exact ⟨ret_bool HS2.out.symm, HB.out _ hb6⟩
            | true =>
              have HS2 := Lib.hid (HTRUE.out (by rw [HV.out]; rfl))
              clear HFALSE HTRUE HV
              go_wp2_with (first | (go_at_call 81; (with_reducible refine (HS.out _ hb5).mono ?_); rintro e w6 ⟨rfl, hb6⟩) | ((with_reducible refine (HC.out _ hR).mono ?_); rintro e w5 ⟨rfl, hb5⟩))
              go_roundw
              case rel => exact ⟨k + 1, by omega, by go_num, HS2.out, hb6⟩
              case measure => simp [intOf]; omega
    · obtain rfl : k = 3 := by omega
      have HS := Lib.hid (show sideS lv a b c = true from by rw [← HU.out]; exact hu)
      clear hu
      go_wp2
      go_ret
      exact ⟨ret_bool HS.out.symm, HB.out _ hR⟩

/-! Rules and members. -/
structure RlS (x : Rl) : Prop where
  lv : (Lit.int .i64 x.lv).wf = true
  co : (Lit.int .i64 x.co).wf = true
  z : ∀ t ∈ rlT x, t.size ≤ 1000
def rlC (x : Rl) : List Value := [.int .i64 x.lv, .int .i64 x.co, .bool x.ow, .string x.d0, .string x.d1, .string x.d2, .string x.s0, .string x.s1, .string x.s2]
theorem cells9Z {W : World} {B : Nat} {a b c d e f g h i : Value} {t : TypeId} (hh : W.heap[B]? = some (.cells #[a, b, c, d, e, f, g, h, i] t (0, 0))) :
    W.cell? ⟨B, 0, none⟩ = some a ∧ W.cell? ⟨B, 1, none⟩ = some b ∧ W.cell? ⟨B, 2, none⟩ = some c ∧ W.cell? ⟨B, 3, none⟩ = some d ∧ W.cell? ⟨B, 4, none⟩ = some e ∧ W.cell? ⟨B, 5, none⟩ = some f ∧ W.cell? ⟨B, 6, none⟩ = some g ∧ W.cell? ⟨B, 7, none⟩ = some h ∧ W.cell? ⟨B, 8, none⟩ = some i := by simp [World.cell?, hh]
set_option maxRecDepth 100000 in
set_option maxHeartbeats 4000000 in
theorem rightRl_any (x : Rl) (w : World) (hx : RlS x) :
    Calls Tryz.prog 50 #[.agg #[.int .i64 x.lv, .int .i64 x.co, .bool x.ow, .string x.d0, .string x.d1, .string x.d2, .string x.s0, .string x.s1, .string x.s2]] w fun e w' => e = .returned (.bool (rightRl x)) ∧ Below w.heap.size w w' := by
  obtain ⟨W1, hW1⟩ : ∃ W1, w.alloc (.cells #[.int .i64 x.lv, .int .i64 x.co, .bool x.ow, .string x.d0, .string x.d1, .string x.d2, .string x.s0, .string x.s1, .string x.s2] 79) = W1 := ⟨_, rfl⟩
  have hb1 : Below w.heap.size w W1 := by rw [← hW1]; exact (Below.refl _ w).alloc (Nat.le_refl _) _
  have hA : W1.heap[w.heap.size]? = some (.cells #[.int .i64 x.lv, .int .i64 x.co, .bool x.ow, .string x.d0, .string x.d1, .string x.d2, .string x.s0, .string x.s1, .string x.s2] 79 (0, 0)) := by rw [← hW1]; exact World.alloc_heap_new w _
  have HB := Lib.hid (fun w' (h : Below W1.heap.size W1 w') => hb1.trans (h.mono hb1.size))
  have H9 := Lib.hid (fun w' (h : Below W1.heap.size W1 w') => cells9Z ((h.block _ (lt_of_block hA)).trans hA))
  have HD := Lib.hid (fun w' (h : Below W1.heap.size W1 w') => (side_any x.d0 x.d1 x.d2 x.lv w' (hx.z _ (by simp [rlT])) (hx.z _ (by simp [rlT])) (hx.z _ (by simp [rlT]))).mono (R' := fun e w'' => e = .returned (.bool (sideS x.lv x.d0 x.d1 x.d2)) ∧ Below W1.heap.size W1 w'') fun e w'' ⟨p, q⟩ => ⟨p, h.trans (q.mono h.size)⟩)
  have HS := Lib.hid (fun w' (h : Below W1.heap.size W1 w') => (side_any x.s0 x.s1 x.s2 x.lv w' (hx.z _ (by simp [rlT])) (hx.z _ (by simp [rlT])) (hx.z _ (by simp [rlT]))).mono (R' := fun e w'' => e = .returned (.bool (sideS x.lv x.s0 x.s1 x.s2)) ∧ Below W1.heap.size W1 w'') fun e w'' ⟨p, q⟩ => ⟨p, h.trans (q.mono h.size)⟩)
  have HM := Lib.hid (show rightRl x = (decide (1 ≤ x.lv) && (decide (x.lv ≤ 3) && (decide (0 ≤ x.co) && (decide (x.co ≤ 100) && (sideS x.lv x.d0 x.d1 x.d2 && sideS x.lv x.s0 x.s1 x.s2))))) from rfl)
  have HW1 := Lib.hid hW1
  generalize sideS x.lv x.d0 x.d1 x.d2 = b1 at *
  generalize sideS x.lv x.s0 x.s1 x.s2 = b2 at *
  have hR : Below W1.heap.size W1 W1 := Below.refl _ _
  have c := H9.out _ hR
  obtain ⟨c0, c1, c2, c3, c4, c5, c6, c7, c8⟩ := c
  clear hW1 hb1 hA hx
  by_cases h1 : 1 ≤ x.lv
  · rw [decide_eq_true h1] at HM
    by_cases h2 : x.lv ≤ 3
    · rw [decide_eq_true h2] at HM
      by_cases h3 : 0 ≤ x.co
      · rw [decide_eq_true h3] at HM
        by_cases h4 : x.co ≤ 100
        · rw [decide_eq_true h4] at HM
          cases b1
          case true =>
            go_enter Tryz.func50, Tryz.ntmps50
            go_upto_region 1 with fail
            rw [HW1.out]
            go_wp2_with (first | (go_at_call 85; (with_reducible refine (HD.out _ hR).mono ?_); rintro e w5 ⟨rfl, hb5⟩; have d := H9.out _ hb5; obtain ⟨d0, d1, d2, d3, d4, d5, d6, d7, d8⟩ := d) | (go_at_call 85; (with_reducible refine (HS.out _ hb5).mono ?_); rintro e w6 ⟨rfl, hb6⟩))
            go_ret
            exact ⟨ret_bool HM.out.symm, HB.out _ hb6⟩
          case false =>
            go_enter Tryz.func50, Tryz.ntmps50
            go_upto_region 1 with fail
            rw [HW1.out]
            go_wp2_with (go_at_call 85; (with_reducible refine (HD.out _ hR).mono ?_); rintro e w5 ⟨rfl, hb5⟩)
            go_ret
            exact ⟨ret_bool HM.out.symm, HB.out _ hb5⟩
        · rw [decide_eq_false h4] at HM
          go_enter Tryz.func50, Tryz.ntmps50
          go_upto_region 1 with fail
          rw [HW1.out]
          go_wp2_with fail
          go_ret
          exact ⟨ret_bool HM.out.symm, HB.out _ hR⟩
      · rw [decide_eq_false h3] at HM
        go_enter Tryz.func50, Tryz.ntmps50
        go_upto_region 1 with fail
        rw [HW1.out]
        go_wp2_with fail
        go_ret
        exact ⟨ret_bool HM.out.symm, HB.out _ hR⟩
    · rw [decide_eq_false h2] at HM
      go_enter Tryz.func50, Tryz.ntmps50
      go_upto_region 1 with fail
      rw [HW1.out]
      go_wp2_with fail
      go_ret
      exact ⟨ret_bool HM.out.symm, HB.out _ hR⟩
  · rw [decide_eq_false h1] at HM
    go_enter Tryz.func50, Tryz.ntmps50
    go_upto_region 1 with fail
    rw [HW1.out]
    go_wp2_with fail
    go_ret
    exact ⟨ret_bool HM.out.symm, HB.out _ hR⟩

structure MbS (x : Mb) : Prop where
  st : x.st.size ≤ 1000
  rg : x.rg.size ≤ 1000
theorem cells2Z {W : World} {B : Nat} {a b : Value} {t : TypeId} (h : W.heap[B]? = some (.cells #[a, b] t (0, 0))) : W.cell? ⟨B, 0, none⟩ = some a ∧ W.cell? ⟨B, 1, none⟩ = some b := by simp [World.cell?, h]
set_option maxRecDepth 100000 in
set_option maxHeartbeats 4000000 in
theorem rightMb_any (x : Mb) (w : World) (hx : MbS x) :
    Calls Tryz.prog 54 #[.agg #[.string x.st, .string x.rg]] w fun e w' => e = .returned (.bool (rightMb x)) ∧ Below w.heap.size w w' := by
  obtain ⟨W1, hW1⟩ : ∃ W1, w.alloc (.cells #[.string x.st, .string x.rg] 82) = W1 := ⟨_, rfl⟩
  have hb1 : Below w.heap.size w W1 := by rw [← hW1]; exact (Below.refl _ w).alloc (Nat.le_refl _) _
  have hA : W1.heap[w.heap.size]? = some (.cells #[.string x.st, .string x.rg] 82 (0, 0)) := by rw [← hW1]; exact World.alloc_heap_new w _
  have HB := Lib.hid (fun w' (h : Below W1.heap.size W1 w') => hb1.trans (h.mono hb1.size))
  have H2 := Lib.hid (fun w' (h : Below W1.heap.size W1 w') => cells2Z ((h.block _ (lt_of_block hA)).trans hA))
  have HN := onward W1 (fun w' => setName_any x.st w' (by have := hx.st; omega))
  have HR := onward W1 (fun w' => region_own x.rg w' (by have := hx.rg; unfold maxLen; omega))
  have HS := onward W1 (fun w' => inSmall_any x.rg w' (by have := hx.rg; omega))
  have HM := Lib.hid (show rightMb x = (nameS x.st && (regionS x.rg && smallS x.rg)) from rfl)
  have HW1 := Lib.hid hW1
  generalize nameS x.st = b1 at *
  generalize regionS x.rg = b2 at *
  generalize smallS x.rg = b3 at *
  have hR : Below W1.heap.size W1 W1 := Below.refl _ _
  have c := H2.out _ hR
  obtain ⟨c0, c1⟩ := c
  clear hW1 hb1 hA hx
  cases b1
  case false =>
    go_enter Tryz.func54, Tryz.ntmps54
    go_upto_region 1 with fail
    rw [HW1.out]
    go_wp2_with (first
      | (go_at_call 86; (with_reducible refine (HN.out _ hR).mono ?_); rintro e w5 ⟨rfl, hb5⟩; have d := H2.out _ hb5; obtain ⟨d0, d1⟩ := d)
      | (go_at_call 84; (with_reducible refine (HR.out _ hb5).mono ?_); rintro e w6 ⟨rfl, hb6⟩; have f := H2.out _ hb6; obtain ⟨f0, f1⟩ := f)
      | (go_at_call 81; (with_reducible refine (HS.out _ hb6).mono ?_); rintro e w7 ⟨rfl, hb7⟩))
    go_ret
    exact ⟨ret_bool HM.out.symm, HB.out _ hb5⟩
  case true =>
    cases b2
    case false =>
      go_enter Tryz.func54, Tryz.ntmps54
      go_upto_region 1 with fail
      rw [HW1.out]
      go_wp2_with (first
        | (go_at_call 86; (with_reducible refine (HN.out _ hR).mono ?_); rintro e w5 ⟨rfl, hb5⟩; have d := H2.out _ hb5; obtain ⟨d0, d1⟩ := d)
        | (go_at_call 84; (with_reducible refine (HR.out _ hb5).mono ?_); rintro e w6 ⟨rfl, hb6⟩; have f := H2.out _ hb6; obtain ⟨f0, f1⟩ := f)
        | (go_at_call 81; (with_reducible refine (HS.out _ hb6).mono ?_); rintro e w7 ⟨rfl, hb7⟩))
      go_ret
      exact ⟨ret_bool HM.out.symm, HB.out _ hb6⟩
    case true =>
      go_enter Tryz.func54, Tryz.ntmps54
      go_upto_region 1 with fail
      rw [HW1.out]
      go_wp2_with (first
        | (go_at_call 86; (with_reducible refine (HN.out _ hR).mono ?_); rintro e w5 ⟨rfl, hb5⟩; have d := H2.out _ hb5; obtain ⟨d0, d1⟩ := d)
        | (go_at_call 84; (with_reducible refine (HR.out _ hb5).mono ?_); rintro e w6 ⟨rfl, hb6⟩; have f := H2.out _ hb6; obtain ⟨f0, f1⟩ := f)
        | (go_at_call 81; (with_reducible refine (HS.out _ hb6).mono ?_); rintro e w7 ⟨rfl, hb7⟩))
      go_ret
      exact ⟨ret_bool HM.out.symm, HB.out _ hb7⟩
end Go.Proofs.YtbafmnafhaoggaaGreatDoor

/-! Package image: the places of texts, texts packed, and the closures that make rows of things. -/
namespace Go.Proofs.YtbafmnafhaoggaaGreatDoor
open Go Go.RowKit

theorem lt_cellZ {W : World} {a : Addr} {v : Value} (h : W.cell? a = some v) : a.block < W.heap.size := World.block_lt_of_cell? _ _ h
/-- A row of places within one block. -/
def PtrsZ (W : World) (v : Value) (B : Nat) (os : List Nat) : Prop :=
  ∃ g, v = .slice (some ⟨g, 0, none⟩) os.length os.length ∧ ∀ i o, os[i]? = some o → W.cell? ⟨g, i, none⟩ = some (.pointer (some ⟨B, o, none⟩))
theorem PtrsZ.below {W W' : World} {v : Value} {B : Nat} {os : List Nat} (h : PtrsZ W v B os) (hb : Below W.heap.size W W') : PtrsZ W' v B os := by
  obtain ⟨g, rfl, hc⟩ := h
  exact ⟨g, rfl, fun i o ho => (hb.cell (p := ⟨g, i, none⟩) (lt_cellZ (hc i o ho))).trans (hc i o ho)⟩
theorem ptrs_block {W : World} {g B : Nat} {os : List Nat} {t : TypeId} (h : W.heap[g]? = some (.cells (os.map fun o => Value.pointer (some ⟨B, o, none⟩)).toArray t (0, 0))) : PtrsZ W (.slice (some ⟨g, 0, none⟩) os.length os.length) B os :=
  ⟨g, rfl, fun i o ho => by simp [World.cell?, h, ho]⟩

set_option maxRecDepth 100000 in
set_option maxHeartbeats 4000000 in
theorem likelyTexts_any (B : Nat) (w : World) :
    Calls Tryz.prog 43 #[.pointer (some ⟨B, 0, none⟩)] w fun e w' => ∃ v, e = .returned v ∧ PtrsZ w' v B [0, 1, 2, 3, 4, 5] ∧ Below w.heap.size w w' := by
  go_enter Tryz.func43, Tryz.ntmps43
  go_wp2
  go_region
  go_wp2
  go_ret
  first
  | exact ⟨_, rfl, ptrs_block (os := [0, 1, 2, 3, 4, 5]) (World.alloc_heap_new w.drew _), (Below.drew (Below.refl _ w)).alloc (Nat.le_refl _) _⟩
  | exact ⟨_, rfl, ptrs_block (os := [0, 1, 2, 3, 4, 5]) (World.alloc_heap_new w _), Below.drew ((Below.refl _ w).alloc (Nat.le_refl _) _)⟩
set_option maxRecDepth 100000 in
set_option maxHeartbeats 4000000 in
theorem memberTexts_any (B : Nat) (w : World) :
    Calls Tryz.prog 53 #[.pointer (some ⟨B, 0, none⟩)] w fun e w' => ∃ v, e = .returned v ∧ PtrsZ w' v B [0, 1] ∧ Below w.heap.size w w' := by
  go_enter Tryz.func53, Tryz.ntmps53
  go_wp2
  go_region
  go_wp2
  go_ret
  first
  | exact ⟨_, rfl, ptrs_block (os := [0, 1]) (World.alloc_heap_new w.drew _), (Below.drew (Below.refl _ w)).alloc (Nat.le_refl _) _⟩
  | exact ⟨_, rfl, ptrs_block (os := [0, 1]) (World.alloc_heap_new w _), Below.drew ((Below.refl _ w).alloc (Nat.le_refl _) _)⟩
set_option maxRecDepth 100000 in
set_option maxHeartbeats 8000000 in
theorem ruleTexts_any (B : Nat) (w : World) :
    Calls Tryz.prog 49 #[.pointer (some ⟨B, 0, none⟩)] w fun e w' => ∃ v, e = .returned v ∧ PtrsZ w' v B [3, 4, 5, 6, 7, 8] ∧ Below w.heap.size w w' := by
  go_enter Tryz.func49, Tryz.ntmps49
  go_wp2
  go_region
  go_wp2
  go_ret
  first
  | exact ⟨_, rfl, ptrs_block (os := [3, 4, 5, 6, 7, 8]) (World.alloc_heap_new w.drew _), (Below.drew (Below.refl _ w)).alloc (Nat.le_refl _) _⟩
  | exact ⟨_, rfl, ptrs_block (os := [3, 4, 5, 6, 7, 8]) (World.alloc_heap_new w _), Below.drew ((Below.refl _ w).alloc (Nat.le_refl _) _)⟩

/-! A builder's bytes. -/
theorem builder_ownZ {b B : Nat} {bs : List Value} {X Y : World} (h : Lib.IsBuilderF 140 5 B b bs X) (hg : X.grownBy Y none) : Lib.IsBuilderF 140 5 B b bs Y := by
  have one : ∀ p, Lib.BuilderAtF 140 5 B b p bs X → Lib.BuilderAtF 140 5 B b p bs Y := by
    rintro p ⟨hB, v, hb, hown, hne⟩
    refine ⟨hB, v, (hg.block b (Array.getElem?_eq_some_iff.1 hb).1 (fun e => by cases e)).trans hb, hown.kept hg ?_, hne⟩
    rcases hown.2 with ⟨rfl, _⟩ | ⟨g, cap, cur, fz, rfl, _, hgb, _⟩
    · exact .inl rfl
    · exact .inr (fun e => by cases e)
  rcases h with h | h
  · exact .inl (one _ h)
  · exact .inr (one _ h)
def BdZ (w : World) (l : List UInt8) (W : World) : Prop := Lib.IsBuilderF 140 5 w.heap.size w.heap.size (Lib.byteCells l) W ∧ Below w.heap.size w W
theorem BdZ.calm {w W W' : World} {l : List UInt8} (h : BdZ w l W) (hb : Below W.heap.size W W') : BdZ w l W' := ⟨builder_ownZ h.1 (grown_of_below hb), h.2.trans (hb.mono h.2.size)⟩
theorem BdZ.write {w W : World} {l : List UInt8} (h : BdZ w l W) (t : ByteArray) (hl : l.length ≤ 1000) (ht : t.size ≤ 1000) :
    Calls Tryz.prog 79 #[.pointer (some ⟨w.heap.size, 0, none⟩), .string t] W fun e W' => e = .returned (.tuple #[.int .i64 t.size, .nilIface]) ∧ BdZ w (l ++ bs t) W' := by
  have hs := h.2.size
  refine (builder_WriteString w.heap.size w.heap.size (Lib.byteCells l) t W h.1 (by rw [Lib.byteCells_length]; omega) hs).mono ?_
  rintro e W' ⟨rfl, h1, hb, -⟩
  have e1 : Lib.byteCells (l ++ bs t) = Lib.byteCells l ++ Lib.strCells t := by simp [Lib.byteCells, Lib.strCells, bs]
  exact ⟨rfl, .inr (by rw [e1]; exact h1), h.2.trans hb⟩
theorem BdZ.text {w W : World} {l : List UInt8} (h : BdZ w l W) :
    Calls Tryz.prog 80 #[.pointer (some ⟨w.heap.size, 0, none⟩)] W fun e W' => e = .returned (.string (ofL l)) ∧ Below w.heap.size w W' := by
  refine (Tryz.Builder_String_any_k w.heap.size w.heap.size l W h.1 h.2.size).mono ?_
  rintro e W' ⟨rfl, -, hb, -⟩
  exact ⟨rfl, h.2.trans hb⟩
theorem BdZ.start (w : World) : BdZ w [] (w.alloc (.cells #[.pointer none, .slice none 0 0] 140)) :=
  ⟨.inl ⟨Nat.le_refl _, .slice none 0 0, World.alloc_heap_new _ _, World.ownsRowF_nil _ _ _ _, by simp [Value.ownBlock]⟩, (Below.refl _ w).alloc (Nat.le_refl _) _⟩

set_option maxRecDepth 100000 in
set_option maxHeartbeats 4000000 in
theorem packedZ_any (v : Value) (B : Nat) (os : List Nat) (ts : List ByteArray) (w : World) (hp : PtrsZ w v B os) (hl : ts.length = os.length)
    (ht : ∀ (i o : Nat) (t : ByteArray), os[i]? = some o → ts[i]? = some t → w.cell? ⟨B, o, none⟩ = some (.string t)) (hz : ∀ t ∈ ts, t.size ≤ 1000) (h6 : ts.length ≤ 6) :
    Calls Tryz.prog 42 #[v] w fun e w' => e = .returned (.string (ofL (packL ts))) ∧ Below w.heap.size w w' := by
  obtain ⟨g, rfl, hg⟩ := hp
  obtain ⟨n, hn⟩ : ∃ n, ts.length = n := ⟨_, rfl⟩
  rw [← hl, hn]
  have HG := Lib.hid (fun k o (ho : os[k]? = some o) w' (h : Below w.heap.size w w') => (h.cell (p := ⟨g, k, none⟩) (lt_cellZ (hg k o ho))).trans (hg k o ho))
  have HT := Lib.hid (fun k o t (ho : os[k]? = some o) (hk : ts[k]? = some t) w' (h : Below w.heap.size w w') => (h.cell (p := ⟨B, o, none⟩) (lt_cellZ (ht k o t ho hk))).trans (ht k o t ho hk))
  have HZ := Lib.hid hz
  have HO := Lib.hid (fun k (hk : k < n) => show ∃ o, os[k]? = some o from ⟨_, List.getElem?_eq_getElem (by omega)⟩)
  have HX := Lib.hid (fun k (hk : k < n) => show ∃ t, ts[k]? = some t from ⟨_, List.getElem?_eq_getElem (by omega)⟩)
  have HN := Lib.hid hn
  have HS := BdZ.start w
  have hn6 : n ≤ 6 := by omega
  clear hg ht hz hl hn h6
  go_enter Tryz.func42, Tryz.ntmps42
  go_upto_region 2 with fail
  generalize w.alloc (.cells #[.pointer none, .slice none 0 0] 140) = W1 at *
  go_wp2_with fail
  go_loopw [5, 6, 7, 10] (fun _ _ _ i wr => ∃ k : Nat, k ≤ n ∧ i = .int .i64 (k : Int) ∧ BdZ w (packL (ts.take k)) wr) (fun _ _ _ i _ => n - (intOf i).toNat)
  case atStart => exact ⟨0, Nat.zero_le _, rfl, HS⟩
  case round =>
    obtain ⟨k, hk, rfl, hR⟩ := hrel
    clear HS
    by_cases hlt : k < n
    · have hlt' : (k : Int) < (n : Int) := by omega
      have hk0 : (0 : Int) ≤ (k : Int) := by omega
      obtain ⟨o, ho⟩ := HO.out k hlt
      obtain ⟨t, htk⟩ := HX.out k hlt
      have c1 := HG.out k o ho wr hR.2
      have c2 := HT.out k o t ho htk wr hR.2
      have hzt := HZ.out t (List.mem_of_getElem? htk)
      have HPK := Lib.hid (fun w' => pack_any t w' (by omega))
      have H8 := Lib.hid (fun w' => put8 (packN t) w')
      have hlen : (packL (ts.take k)).length ≤ 1000 := by rw [length_packL, List.length_take]; omega
      have HNX := Lib.hid (show packL (ts.take k) ++ bs (ofL (putL (packN t) 8)) = packL (ts.take (k + 1)) by rw [packL_take htk, bs_ofL]; rfl)
      have hs8 : (ofL (putL (packN t) 8)).size ≤ 1000 := by rw [size_ofL, length_putL]; omega
      have HR := Lib.hid hR
      clear ho htk hR
      generalize packT (lowS t) = okb at *
      generalize packL (ts.take k) = L at *
      generalize ofL (putL (packN t) 8) = s8 at *
      generalize packN t = pn at *
      go_wp2_with (first
        | (go_at_call 78; (with_reducible refine (HPK.out _).mono ?_); rintro e w5 ⟨rfl, hb5⟩)
        | (go_at_call 55; (with_reducible refine (H8.out _).mono ?_); rintro e w6 ⟨rfl, hb6⟩; have HR6 := Lib.hid ((HR.out.calm hb5).calm hb6))
        | (go_at_call 79; (with_reducible refine (HR6.out.write s8 hlen hs8).mono ?_); rintro e w7 ⟨rfl, hb7⟩))
      go_roundw
      case rel => exact ⟨k + 1, by omega, by go_num, by rw [← HNX.out]; exact hb7⟩
      case measure => simp [intOf]; omega
    · obtain rfl : k = n := by omega
      have HTX := Lib.hid hR.text
      have HE := Lib.hid (show packL (ts.take k) = packL ts by rw [List.take_of_length_le (by rw [HN.out]; omega)])
      clear hR
      generalize packL (ts.take k) = L at *
      go_wp2_with (go_at_call 80; (with_reducible refine HTX.out.mono ?_); rintro e w7 ⟨rfl, hb7⟩)
      go_ret
      exact ⟨by rw [← HE.out]; rfl, hb7⟩

/-! Numbers of one byte. -/
theorem smallZ_any (n : Int) (w : World) : Calls Tryz.prog 47 #[.int .i64 n] w fun e w' => e = .returned (.string (byteZ n)) ∧ Below w.heap.size w w' := by
  have hw := u64N_cast n
  have HB := Lib.hid (show byteZ n = ofL (putL (u64N n) 1) from rfl)
  generalize u64N n = m at *
  have HP := Lib.hid (fun w' => put1 m w')
  go_enter Tryz.func47, Tryz.ntmps47
  go_wp2_with (go_at_call 55; (with_reducible refine (HP.out _).mono ?_); rintro e w5 ⟨rfl, hb5⟩)
  go_ret
  exact ⟨by rw [HB.out]; rfl, hb5⟩
theorem bitZ_any (b : Bool) (w : World) : Calls Tryz.prog 48 #[.bool b] w fun e w' => e = .returned (.int .i64 (bitN b : Int)) ∧ w = w' := by
  cases b
  · go_enter Tryz.func48, Tryz.ntmps48
    go_wp2
    go_ret
    exact ⟨rfl, rfl⟩
  · go_enter Tryz.func48, Tryz.ntmps48
    go_wp2
    go_ret
    exact ⟨rfl, rfl⟩
end Go.Proofs.YtbafmnafhaoggaaGreatDoor

/-! Package image: things in memory, faults, and what the rows of one kind of things are. -/
namespace Go.Proofs.YtbafmnafhaoggaaGreatDoor
open Go Go.RowKit

/-- Things of so many cells in a row, wherever they lie. -/
def RowC (W : World) (v : Value) (sz : Nat) (L : List (List Value)) : Prop :=
  ∃ ao cap, v = .slice ao L.length cap ∧ ∀ i c, L[i]? = some c → ∃ g o, ao = some ⟨g, o, none⟩ ∧ ∀ k x, c[k]? = some x → W.cell? ⟨g, o + i * sz + k, none⟩ = some x
theorem RowC.below {W W' : World} {v : Value} {sz : Nat} {L : List (List Value)} (h : RowC W v sz L) (hb : Below W.heap.size W W') : RowC W' v sz L := by
  obtain ⟨ao, cap, rfl, hc⟩ := h
  refine ⟨ao, cap, rfl, fun i c hi => ?_⟩
  obtain ⟨g, o, h1, h2⟩ := hc i c hi
  exact ⟨g, o, h1, fun k x hk => (hb.cell (p := ⟨g, o + i * sz + k, none⟩) (lt_cellZ (h2 k x hk))).trans (h2 k x hk)⟩
theorem RowC.nil (W : World) (sz n : Nat) : RowC W (.slice none 0 n) sz [] := ⟨none, n, rfl, fun i c hc => by simp at hc⟩
theorem RowC.slice {W : World} {v : Value} {sz : Nat} {L : List (List Value)} (h : RowC W v sz L) : ∃ ao cap, v = .slice ao L.length cap := by
  obtain ⟨ao, cap, h, -⟩ := h; exact ⟨ao, cap, h⟩
def alC (x : Al) : List Value := [.int .i64 x.k, .string x.a, .string x.b, .string x.l, .string x.s, .string x.r]
def lkC (x : Lk) : List Value := [.string x.l, .string x.s, .string x.r, .string x.tl, .string x.ts, .string x.tr]
def mbC (x : Mb) : List Value := [.string x.st, .string x.rg]

theorem heap_setCellZ {W : World} {g k : Nat} {v : Value} {j : Nat} (h : j ≠ g) : (W.setCell ⟨g, k, none⟩ v).heap[j]? = W.heap[j]? := Below.heap_setCell W ⟨g, k, none⟩ v j h
/-- An error of one fault. -/
def FaultZ (W : World) (v : Value) (k p : Int) (s : ByteArray) : Prop := ∃ b, v = .iface 126 (.pointer (some ⟨b, 0, none⟩)) ∧ W.heap[b]? = some (faultObj p s (.iface 63 (.int .i64 k)))
theorem FaultZ.below {W W' : World} {v : Value} {k p : Int} {s : ByteArray} (h : FaultZ W v k p s) (hb : Below W.heap.size W W') : FaultZ W' v k p s := by
  obtain ⟨b, rfl, h⟩ := h
  exact ⟨b, rfl, (hb.block b (lt_of_block h)).trans h⟩
theorem newZ_any (k p : Int) (s : ByteArray) (w : World) (hk : (k == 0) = false) :
    Calls Tryz.prog 26 #[.int .i64 k, .int .i64 p, .string s] w fun e w' => ∃ v, e = .returned v ∧ FaultZ w' v k p s ∧ Below w.heap.size w w' :=
  (new_any k p s w hk).mono fun e w' ⟨h1, h2⟩ => ⟨_, h1, by rw [← h2]; exact ⟨⟨_, rfl, World.alloc_heap_new _ _⟩, (Below.refl _ w).alloc (Nat.le_refl _) _⟩⟩
/-- What an error tells, or that there is none. -/
def EncZ (W : World) (v : Value) : Option ErrT → Prop
  | none => v = .nilIface
  | some (k, p, s) => FaultZ W v k p s
theorem EncZ.below {W W' : World} {v : Value} {o : Option ErrT} (h : EncZ W v o) (hb : Below W.heap.size W W') : EncZ W' v o := by
  cases o with
  | none => exact h
  | some e => exact FaultZ.below h hb

theorem own_sliceZ {w : World} {base : Nat} {e : TypeId} {sz : Nat} {v : Value} {n : Nat} {xs : List Value} (h : w.ownsRow base e sz v n xs) : ∃ ao m cap, v = .slice ao m cap := by
  rcases h.2 with ⟨rfl, _⟩ | ⟨g, cap, _, rfl, _⟩
  · exact ⟨_, _, _, rfl⟩
  · exact ⟨_, _, _, rfl⟩
/-- The rows of one kind, or the first thing that is not right. -/
def PartZ (W : World) (u er : Value) (wh : ByteArray) (rows : List ByteArray) : Option Nat → Prop
  | none => er = .nilIface ∧ W.ownsRow 0 9 1 u rows.length (strsW rows)
  | some i => FaultZ W er 12 (i : Int) wh ∧ ∃ ao m cap, u = .slice ao m cap
theorem PartZ.below {W W' : World} {u er : Value} {wh : ByteArray} {rows : List ByteArray} {o : Option Nat} (h : PartZ W u er wh rows o) (hb : Below W.heap.size W W') : PartZ W' u er wh rows o := by
  cases o with
  | none => exact ⟨h.1, own_belowW h.2 hb⟩
  | some i => exact ⟨h.1.below hb, h.2⟩
theorem PartZ.slice {W : World} {u er : Value} {wh : ByteArray} {rows : List ByteArray} {o : Option Nat} (h : PartZ W u er wh rows o) : ∃ ao m cap, u = .slice ao m cap := by
  cases o with
  | none => exact own_sliceZ h.2
  | some i => exact h.2
/-- What a loop over things has made so far. -/
structure PaI (w wr : World) (wh : ByteArray) (wd ky : Int) (v : Value) (L : List ByteArray) : Prop where
  blk : wr.heap[w.heap.size]? = some (.cells #[.string wh, .int .i64 wd, .int .i64 ky, v, .nilIface] 54 (0, 0))
  res : wr.heap[w.heap.size + 1]? = some (.cells #[.string ⟨#[]⟩, .int .i64 0, .int .i64 0, .slice none 0 0, .nilIface] 54 (0, 0))
  own : wr.ownsRow (w.heap.size + 2) 9 1 v L.length (strsW L)
  bel : Below w.heap.size w wr
theorem PaI.siz {w wr : World} {wh : ByteArray} {wd ky : Int} {v : Value} {L : List ByteArray} (h : PaI w wr wh wd ky v L) : w.heap.size + 2 ≤ wr.heap.size := lt_of_block h.res
theorem PaI.below {w wr wr' : World} {wh : ByteArray} {wd ky : Int} {v : Value} {L : List ByteArray} (h : PaI w wr wh wd ky v L) (hb : Below wr.heap.size wr wr') : PaI w wr' wh wd ky v L :=
  ⟨(hb.block _ (lt_of_block h.blk)).trans h.blk, (hb.block _ (lt_of_block h.res)).trans h.res, own_belowW h.own hb, h.bel.trans (hb.mono h.bel.size)⟩
theorem PaI.start (w : World) (wh : ByteArray) (wd ky : Int) : PaI w ((w.alloc (.cells #[.string wh, .int .i64 wd, .int .i64 ky, .slice none 0 0, .nilIface] 54)).alloc (.cells #[.string ⟨#[]⟩, .int .i64 0, .int .i64 0, .slice none 0 0, .nilIface] 54)) wh wd ky (.slice none 0 0) [] :=
  ⟨(Below.heap_alloc _ _ _ (by simp)).trans (World.alloc_heap_new w _), heap_alloc2_new w _ _, World.ownsRow_nil _ _ _ _, ((Below.refl _ w).alloc (Nat.le_refl _) _).alloc (by simp) _⟩
theorem PaI.grown {w wr w2 : World} {wh : ByteArray} {wd ky : Int} {v : Value} {L : List ByteArray} {o : Obj} (h : PaI w wr wh wd ky v L) (hg : (wr.alloc o).grownBy w2 v.ownBlock) :
    w2.heap[w.heap.size]? = some (.cells #[.string wh, .int .i64 wd, .int .i64 ky, v, .nilIface] 54 (0, 0)) ∧ w2.heap[w.heap.size + 1]? = some (.cells #[.string ⟨#[]⟩, .int .i64 0, .int .i64 0, .slice none 0 0, .nilIface] 54 (0, 0)) ∧ Below w.heap.size w w2 := by
  have hs := h.siz
  have hn : ∀ k, k < w.heap.size + 2 → (some k : Option Nat) ≠ v.ownBlock := fun k hk e => by have := (h.own.lt k e.symm).1; omega
  refine ⟨(hg.block _ (by simp; omega) (hn _ (by omega))).trans ((Below.heap_alloc _ _ _ (by omega)).trans h.blk), (hg.block _ (by simp; omega) (hn _ (by omega))).trans ((Below.heap_alloc _ _ _ (by omega)).trans h.res), ?_⟩
  exact (h.bel.alloc h.bel.size o).grown hg (by simp; omega) (fun r e => by have := (h.own.lt r e).1; omega)
theorem PaI.push {w wr w2 : World} {wh : ByteArray} {wd ky : Int} {v v' : Value} {L : List ByteArray} {o : Obj} {x : ByteArray} (h : PaI w wr wh wd ky v L) (hg : (wr.alloc o).grownBy w2 v.ownBlock)
    (h1 : w2.ownsRow (w.heap.size + 2) 9 1 v' (L.length + 1) (strsW L ++ [.string x])) : PaI w (w2.setCell ⟨w.heap.size, 3, none⟩ v') wh wd ky v' (L ++ [x]) := by
  obtain ⟨g1, g2, g3⟩ := h.grown hg
  refine ⟨setY g1 v', (heap_setCellZ (by omega)).trans g2, ?_, g3.setCell (p := ⟨w.heap.size, 3, none⟩) (Nat.le_refl _) v'⟩
  rw [List.length_append, strsW_append]
  exact ownsRow_setCell_other h1 (fun e => by have := (h1.lt _ e).1; simp at this; omega) v'
theorem sizePart : (Tryz.prog.info? 54).map (·.size) = some 5 := by kernel_rfl
theorem badL_at {α : Type} {p : α → Bool} {l : List α} {k : Nat} {x : α} (h : badL p (l.take k) = none) (hx : l[k]? = some x) (hp : p x = false) : badL p l = some k := by
  unfold badL at *
  rw [List.findIdx?_eq_none_iff] at h
  obtain ⟨hk, rfl⟩ := List.getElem?_eq_some_iff.1 hx
  rw [List.findIdx?_eq_some_iff_getElem]
  refine ⟨hk, by rw [hp]; rfl, fun j hj => ?_⟩
  have := h l[j] (List.mem_take_iff_getElem.2 ⟨j, by omega, rfl⟩)
  simpa using this
theorem badL_next {α : Type} {p : α → Bool} {l : List α} {k : Nat} {x : α} (h : badL p (l.take k) = none) (hx : l[k]? = some x) (hp : p x = true) : badL p (l.take (k + 1)) = none := by
  unfold badL at *
  rw [List.findIdx?_eq_none_iff] at *
  intro y hy
  rw [take_nextW hx, List.mem_append] at hy
  rcases hy with hy | hy
  · exact h y hy
  · rw [List.mem_singleton.1 hy, hp]; rfl
end Go.Proofs.YtbafmnafhaoggaaGreatDoor
