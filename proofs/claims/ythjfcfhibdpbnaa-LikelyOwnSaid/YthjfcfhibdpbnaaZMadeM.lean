/-
  Images by numbers: what Made of layer 13 gives (plain mathematics). (Printed by wip/gen_zmade.py.)
-/
import Derived.Test.YthjfcfhibdpbnaaZSpoilt
import Derived.Test.YthjfcfhibdpbnaaYMades
namespace Go.Proofs.Ythjfcfhibdpbnaa
open Go Go.RowKit

structure SeedZ where
  als : List Sd
  lks : List Int
  rls : List Int
  mbs : List Int
  th : Int
  de : Int
  odd : Int
def sdC (s : Sd) : List Value := [.int .i64 s.kind, .int .i64 s.a, .int .i64 s.b, .int .i64 s.l, .int .i64 s.s, .int .i64 s.r, .int .i64 s.odd]
def inC (n : Int) : List Value := [.int .i64 n]
/-- A seed in memory. -/
structure SdR (W : World) (va vl vr vm : Value) (S : SeedZ) : Prop where
  a : RowC W va 7 (S.als.map sdC)
  l : RowC W vl 1 (S.lks.map inC)
  r : RowC W vr 1 (S.rls.map inC)
  m : RowC W vm 1 (S.mbs.map inC)
theorem SdR.below {W W' : World} {va vl vr vm : Value} {S : SeedZ} (h : SdR W va vl vr vm S) (hb : Below W.heap.size W W') : SdR W' va vl vr vm S := ⟨h.a.below hb, h.l.below hb, h.r.below hb, h.m.below hb⟩
theorem RowC.opened {α : Type} {f : α → List Value} {W : World} {v : Value} {sz : Nat} {l : List α} (h : RowC W v sz (l.map f)) : ∃ ao cap, v = .slice ao l.length cap ∧ ∀ k x, l[k]? = some x → ∃ g o, ao = some ⟨g, o, none⟩ ∧ ∀ j y, (f x)[j]? = some y → W.cell? ⟨g, o + k * sz + j, none⟩ = some y := by
  obtain ⟨ao, cap, rfl, hc⟩ := h
  refine ⟨ao, cap, by rw [List.length_map], fun k x hx => hc k (f x) (by rw [List.getElem?_map, hx]; rfl)⟩
def EUz : ByteArray := ⟨#[101, 117]⟩
def DEz : ByteArray := ⟨#[100, 101]⟩
def DEF3 : List Rl := [⟨1, 80, false, ⟨#[42]⟩, ⟨#[]⟩, ⟨#[]⟩, ⟨#[42]⟩, ⟨#[]⟩, ⟨#[]⟩⟩, ⟨2, 50, false, ⟨#[42]⟩, ⟨#[42]⟩, ⟨#[]⟩, ⟨#[42]⟩, ⟨#[42]⟩, ⟨#[]⟩⟩, ⟨3, 4, false, ⟨#[42]⟩, ⟨#[42]⟩, ⟨#[42]⟩, ⟨#[42]⟩, ⟨#[42]⟩, ⟨#[42]⟩⟩]
def sameLk (x y : Lk) : Bool := (x.l.toList == y.l.toList) && ((x.s.toList == y.s.toList) && (x.r.toList == y.r.toList))
structure MathA (k : Nat) (als : List Al) : Prop where
  len : als.length ≤ k
  ap : als.Pairwise fun x y => (cmpA x y == 0) = false
  md : ∀ x ∈ als, ∃ s, x = madeA s
structure MathL (k : Nat) (lks : List Lk) : Prop where
  len : lks.length ≤ k
  ap : lks.Pairwise fun x y => sameLk x y = false
  ne : ∀ x ∈ lks, 0 < x.l.size
structure MathM (k : Nat) (mbs : List Mb) : Prop where
  len : mbs.length ≤ k + 1
  ap : mbs.Pairwise fun x y => (x.rg.toList == y.rg.toList) = false
  eu : ∀ x ∈ mbs, x.st = EUz
  hd : ∃ l, mbs = ⟨EUz, DEz⟩ :: l
def anyA (als : List Al) (a : Al) (m : Nat) : Bool := (als.take m).any fun x => cmpA x a == 0
def anyL (lks : List Lk) (y : Lk) (m : Nat) : Bool := (lks.take m).any fun x => sameLk x y
def anyM (mbs : List Mb) (r : ByteArray) (m : Nat) : Bool := (mbs.take m).any fun x => x.rg.toList == r.toList
theorem any_takeZ {α : Type} {l : List α} {m : Nat} {x : α} (p : α → Bool) (h : l[m]? = some x) : (l.take (m + 1)).any p = ((l.take m).any p || p x) := by
  rw [List.take_add_one, h, List.any_append]; simp
theorem pair_pushZ {α : Type} {R : α → α → Bool} {l : List α} {a : α} (h : l.Pairwise fun x y => R x y = false) (ha : l.any (fun x => R x a) = false) : (l ++ [a]).Pairwise fun x y => R x y = false := by
  rw [List.pairwise_append]
  refine ⟨h, List.pairwise_singleton _ _, fun x hx y hy => ?_⟩
  obtain rfl := List.mem_singleton.1 hy
  rw [List.any_eq_false] at ha
  have := ha x hx
  simpa using this
theorem MathA.nil : MathA 0 [] := ⟨Nat.le_refl _, List.Pairwise.nil, fun x hx => by simp at hx⟩
theorem MathA.up {k k' : Nat} {als : List Al} (h : MathA k als) (hk : k ≤ k') : MathA k' als := ⟨Nat.le_trans h.len hk, h.ap, h.md⟩
theorem MathA.push {k : Nat} {als : List Al} {a : Al} (h : MathA k als) (ha : anyA als a als.length = false) (hm : ∃ s, a = madeA s) : MathA (k + 1) (als ++ [a]) :=
  ⟨by rw [List.length_append]; exact Nat.succ_le_succ h.len, pair_pushZ (R := fun x y => cmpA x y == 0) h.ap (by unfold anyA at ha; rwa [List.take_length] at ha), fun x hx => (List.mem_append.1 hx).elim (h.md x) fun e => by obtain rfl := List.mem_singleton.1 e; exact hm⟩
theorem MathL.nil : MathL 0 [] := ⟨Nat.le_refl _, List.Pairwise.nil, fun _ h => by cases h⟩
theorem MathL.up {k k' : Nat} {lks : List Lk} (h : MathL k lks) (hk : k ≤ k') : MathL k' lks := ⟨Nat.le_trans h.len hk, h.ap, h.ne⟩
theorem MathL.push {k : Nat} {lks : List Lk} {a : Lk} (h : MathL k lks) (ha : anyL lks a lks.length = false) (hn : 0 < a.l.size) : MathL (k + 1) (lks ++ [a]) :=
  ⟨by rw [List.length_append]; exact Nat.succ_le_succ h.len, pair_pushZ (R := sameLk) h.ap (by unfold anyL at ha; rwa [List.take_length] at ha), fun x hx => (List.mem_append.1 hx).elim (h.ne x) fun e => by obtain rfl := List.mem_singleton.1 e; exact hn⟩
theorem MathM.start : MathM 0 [⟨EUz, DEz⟩] := ⟨Nat.le_refl _, List.pairwise_singleton _ _, fun x hx => by obtain rfl := List.mem_singleton.1 hx; rfl, [], rfl⟩
theorem MathM.up {k k' : Nat} {mbs : List Mb} (h : MathM k mbs) (hk : k ≤ k') : MathM k' mbs := ⟨Nat.le_trans h.len (by omega), h.ap, h.eu, h.hd⟩
theorem MathM.push {k : Nat} {mbs : List Mb} {r : ByteArray} (h : MathM k mbs) (ha : anyM mbs r mbs.length = false) : MathM (k + 1) (mbs ++ [⟨EUz, r⟩]) := by
  obtain ⟨l, hl⟩ := h.hd
  exact ⟨by rw [List.length_append]; exact Nat.succ_le_succ h.len, pair_pushZ (R := fun x y : Mb => x.rg.toList == y.rg.toList) h.ap (by unfold anyM at ha; rwa [List.take_length] at ha), fun x hx => (List.mem_append.1 hx).elim (h.eu x) fun e => by obtain rfl := List.mem_singleton.1 e; rfl, l ++ [⟨EUz, r⟩], by rw [hl]; rfl⟩
/-- What Made makes, ahead of spoilt. -/
structure BaseI (S : SeedZ) (im : Im) : Prop where
  a : MathA (min S.als.length 8) im.als
  l : MathL (2 * min S.lks.length 8) im.lks
  r : ∃ l : List Rl, im.rls = l ++ DEF3 ∧ l.length ≤ min S.rls.length 8
  m : MathM (min S.mbs.length 6) im.mbs
  th : im.th = (restV S.th 256 : Int)
  de : im.de = (restV S.de 30 : Int)
  s : ImS im
theorem Own4.low {W : World} {b b' : Nat} {im : Im} {va vl vr vm : Value} (h : Own4 W b im va vl vr vm) (hb : b' ≤ b) : Own4 W b' im va vl vr vm := ⟨own_lowW h.a hb, own_lowW h.l hb, own_lowW h.r hb, own_lowW h.m hb, h.s⟩
def ImO (w : World) (im : Im) (e : Ending) (w' : World) : Prop := ∃ va vl vr vm, e = .returned (.agg #[va, vl, vr, vm, .int .i64 im.th, .int .i64 im.de]) ∧ Own4 w' w.heap.size im va vl vr vm ∧ Below w.heap.size w w'
def MdE (w : World) (S : SeedZ) (e : Ending) (w' : World) : Prop := ∃ im, BaseI S im ∧ ImO w (spI im (restV S.odd 12)) e w'
set_option maxRecDepth 100000 in
theorem restE_any (x : Int) (n : Nat) (w : World) (hn : 1 ≤ n) (hn2 : n ≤ 1000) :
    Calls Try.prog 15 #[.int .i64 x, .int .i64 (n : Int)] w fun e w' => e = .returned (.int .i64 (restV x n : Int)) ∧ w' = w := by
  have HE := Lib.hid (rest_numZ x n hn hn2)
  have h0 : ((n : Int) == 0) = false := by rw [beq_eq_false_iff_ne]; omega
  have h1 : (n : Int) ≠ 0 := by omega
  clear hn hn2
  generalize hm : (n : Int) = m at *
  go_enter Try.func15, Try.ntmps15
  go_wp2
  go_ret
  exact ⟨ret_int HE.out, rfl⟩
theorem own_lenZ {w : World} {base sz n m c : Nat} {e : TypeId} {a : Option Addr} {xs : List Value} (h : w.ownsRow base e sz (.slice a m c) n xs) : m = n ∧ True := by
  rcases h.2 with ⟨he, h0⟩ | ⟨g, cap, cur, he, _⟩
  · injection he with _ e2 _
    exact ⟨by omega, trivial⟩
  · injection he with _ e2 _
    exact ⟨e2, trivial⟩
theorem ne_liesZ {v : Value} {gl g7 H : Nat} (h : v.ownBlock = some g7 ∨ g7 = H) (hn : v.ownBlock ≠ some gl) (hl : gl < H) (n c : Nat) : (Value.slice (some ⟨g7, 0, none⟩) n c).ownBlock ≠ some gl := by
  intro e
  have e : g7 = gl := by simpa [Value.ownBlock] using e
  rcases h with h | h
  · rw [e] at h; exact hn h
  · omega
theorem setCell_sizeZ {W : World} {n : Nat} {p : Addr} {u : Value} (h : n ≤ W.heap.size) : n ≤ (W.setCell p u).heap.size := by simp [World.setCell]; exact h
theorem mbS_eu {r : ByteArray} (h : r.size ≤ 1000) : MbS ⟨EUz, r⟩ := ⟨by show EUz.size ≤ 1000; decide, h⟩
theorem def3_oneZ : ∀ u ∈ ([.int .i64 1, .int .i64 80, .bool false, .string { data := #[42] }, .string ⟨#[]⟩, .string ⟨#[]⟩, .string { data := #[42] }, .string ⟨#[]⟩, .string ⟨#[]⟩, .int .i64 2, .int .i64 50, .bool false, .string { data := #[42] }, .string { data := #[42] }, .string ⟨#[]⟩, .string { data := #[42] }, .string { data := #[42] }, .string ⟨#[]⟩, .int .i64 3, .int .i64 4, .bool false, .string { data := #[42] }, .string { data := #[42] }, .string { data := #[42] }, .string { data := #[42] }, .string { data := #[42] }, .string { data := #[42] }] : List Value), u.oneCell' = true := fun u hu => List.all_eq_true.1 (show ([.int .i64 1, .int .i64 80, .bool false, .string { data := #[42] }, .string ⟨#[]⟩, .string ⟨#[]⟩, .string { data := #[42] }, .string ⟨#[]⟩, .string ⟨#[]⟩, .int .i64 2, .int .i64 50, .bool false, .string { data := #[42] }, .string { data := #[42] }, .string ⟨#[]⟩, .string { data := #[42] }, .string { data := #[42] }, .string ⟨#[]⟩, .int .i64 3, .int .i64 4, .bool false, .string { data := #[42] }, .string { data := #[42] }, .string { data := #[42] }, .string { data := #[42] }, .string { data := #[42] }, .string { data := #[42] }] : List Value).all (·.oneCell') = true from rfl) u hu
end Go.Proofs.Ythjfcfhibdpbnaa
