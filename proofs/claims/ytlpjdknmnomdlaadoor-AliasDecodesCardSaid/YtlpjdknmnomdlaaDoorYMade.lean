/-
  Aliases by numbers: Made. (Printed by wip/gen_ymade.py.)
-/
import Derived.Test.YtlpjdknmnomdlaaDoorYSpoilt
namespace Go.Proofs.YtlpjdknmnomdlaaDoor
open Go Go.RowKit

def numT (m : Nat) : ByteArray := ofL [UInt8.ofNat (48 + m / 10), UInt8.ofNat (48 + m % 10)]
structure Sd where
  kind : Int
  a : Int
  b : Int
  l : Int
  s : Int
  r : Int
  odd : Int
/-- The three blocks of Made: the seed, what comes back, the alias that is made. -/
structure MdI (w : World) (S : Sd) (x : Al) (W : World) : Prop where
  s : W.heap[w.heap.size]? = some (.cells #[.int .i64 S.kind, .int .i64 S.a, .int .i64 S.b, .int .i64 S.l, .int .i64 S.s, .int .i64 S.r, .int .i64 S.odd] 23 (0, 0))
  r : W.heap[w.heap.size + 1]? = some (.cells #[.int .i64 0, .string ⟨#[]⟩, .string ⟨#[]⟩, .string ⟨#[]⟩, .string ⟨#[]⟩, .string ⟨#[]⟩] 28 (0, 0))
  a : W.heap[w.heap.size + 1 + 1]? = some (.cells #[.int .i64 x.k, .string x.a, .string x.b, .string x.l, .string x.s, .string x.r] 28 (0, 0))
  bel : Below w.heap.size w W
theorem conv_num (m : Nat) (hm : m < 26) (W : World) : (convert 32 9 (.slice (some ⟨W.heap.size, 0, none⟩) 2 2)).run Tryd.prog (W.alloc (.cells #[.int .u8 (48 + (m : Int) / 10), .int .u8 (48 + (m : Int) % 10)] 5)) = .ok (.string (numT m)) (W.alloc (.cells #[.int .u8 (48 + (m : Int) / 10), .int .u8 (48 + (m : Int) % 10)] 5)) := by
  have e0 : 48 + (m : Int) / 10 = (((UInt8.ofNat (48 + m / 10)).toNat : Nat) : Int) := by
    rw [UInt8.toNat_ofNat']; omega
  have e1 : 48 + (m : Int) % 10 = (((UInt8.ofNat (48 + m % 10)).toNat : Nat) : Int) := by
    rw [UInt8.toNat_ofNat']; omega
  rw [e0, e1]
  exact run_convert_bytes_back (P := Tryd.prog) _ 32 9 5 ⟨W.heap.size, 0, none⟩ 2 [UInt8.ofNat (48 + m / 10), UInt8.ofNat (48 + m % 10)] Tryd.underlying32 Tryd.underlying5 Tryd.underlying9 (fun j hj => by
    have h2 : j = 0 ∨ j = 1 := by simp at hj; omega
    rcases h2 with rfl | rfl <;> simp [Addr.add])
theorem pickS_size {l : List ByteArray} {n : Int} {m : Nat} (h0 : 0 < l.length) (h : (l.all fun x => decide (x.size ≤ m)) = true) : (pickS l n).size ≤ m := of_decide_eq_true (List.all_eq_true.1 h _ (pickS_mem l n h0))
theorem MdI.lt {w W : World} {S : Sd} {x : Al} (h : MdI w S x W) : w.heap.size + 1 + 1 < W.heap.size := lt_of_block h.a
theorem MdI.below {w W W' : World} {S : Sd} {x : Al} (h : MdI w S x W) (hb : Below W.heap.size W W') : MdI w S x W' := by
  have hl := h.lt
  exact ⟨(hb.block _ (by omega)).trans h.s, (hb.block _ (by omega)).trans h.r, (hb.block _ hl).trans h.a, h.bel.trans (hb.mono h.bel.size)⟩
theorem MdI.alloc {w W : World} {S : Sd} {x : Al} (h : MdI w S x W) (o : Obj) : MdI w S x (W.alloc o) := h.below ((Below.refl _ _).alloc (Nat.le_refl _) _)
theorem MdI.drew {w W : World} {S : Sd} {x : Al} (h : MdI w S x W) : MdI w S x W.drew := h.below (Below.drew (Below.refl _ _))
theorem cells7 {W : World} {B : Nat} {a b c d e f g : Value} {t : TypeId} (h : W.heap[B]? = some (.cells #[a, b, c, d, e, f, g] t (0, 0))) :
    W.cell? ⟨B, 0, none⟩ = some a ∧ W.cell? ⟨B, 1, none⟩ = some b ∧ W.cell? ⟨B, 2, none⟩ = some c ∧ W.cell? ⟨B, 3, none⟩ = some d ∧ W.cell? ⟨B, 4, none⟩ = some e ∧ W.cell? ⟨B, 5, none⟩ = some f ∧ W.cell? ⟨B, 6, none⟩ = some g := by
  simp [World.cell?, h]
theorem MdI.set {w W : World} {S : Sd} {x y : Al} (h : MdI w S x W) (k : Nat) (v : Value) (hy : (#[.int .i64 x.k, .string x.a, .string x.b, .string x.l, .string x.s, .string x.r] : Array Value).setIfInBounds k v = #[.int .i64 y.k, .string y.a, .string y.b, .string y.l, .string y.s, .string y.r]) : MdI w S y (W.setCell ⟨w.heap.size + 1 + 1, k, none⟩ v) :=
  ⟨(heap_setCellY (by omega)).trans h.s, (heap_setCellY (by omega)).trans h.r, (setY h.a v).trans (by rw [hy]), h.bel.setCell (p := ⟨w.heap.size + 1 + 1, k, none⟩) (by show w.heap.size ≤ w.heap.size + 1 + 1; omega) v⟩
theorem seed_cell {w W : World} {S : Sd} {x : Al} (h : MdI w S x W) : W.cell? ⟨w.heap.size, 0, none⟩ = some (.int .i64 S.kind) ∧ W.cell? ⟨w.heap.size, 1, none⟩ = some (.int .i64 S.a) ∧ W.cell? ⟨w.heap.size, 2, none⟩ = some (.int .i64 S.b) ∧ W.cell? ⟨w.heap.size, 3, none⟩ = some (.int .i64 S.l) ∧ W.cell? ⟨w.heap.size, 4, none⟩ = some (.int .i64 S.s) ∧ W.cell? ⟨w.heap.size, 5, none⟩ = some (.int .i64 S.r) ∧ W.cell? ⟨w.heap.size, 6, none⟩ = some (.int .i64 S.odd) := cells7 h.s

def lat3Y : List ByteArray := [⟨#[]⟩, ⟨#[]⟩, ⟨#[108, 97, 116, 110]⟩]
def us3Y : List ByteArray := [⟨#[]⟩, ⟨#[]⟩, ⟨#[117, 115]⟩]
def lat2Y : List ByteArray := [⟨#[]⟩, ⟨#[108, 97, 116, 110]⟩]
def pairY : List ByteArray := [⟨#[98, 114]⟩, ⟨#[99, 110]⟩, ⟨#[117, 115]⟩, ⟨#[100, 100]⟩]
def varY : List ByteArray := [⟨#[104, 101, 112, 108, 111, 99]⟩, ⟨#[97, 114, 101, 118, 101, 108, 97]⟩, ⟨#[49, 97, 50, 98]⟩]
def toVarY : List ByteArray := [⟨#[]⟩, ⟨#[97, 108, 97, 108, 99, 57, 55]⟩, ⟨#[49, 57, 57, 52]⟩]
def keysY : List ByteArray := [⟨#[99, 97]⟩, ⟨#[99, 111]⟩]
def typesY : List ByteArray := [⟨#[105, 115, 108, 97, 109, 105, 99, 99]⟩, ⟨#[97, 98, 49]⟩, ⟨#[112, 104, 111, 110, 101, 98, 107]⟩]
def toTypesY : List ByteArray := [⟨#[99, 105, 118, 105, 108]⟩, ⟨#[116, 114, 117, 101]⟩, ⟨#[115, 116, 97, 110, 100, 97, 114, 100]⟩]
def baseA (S : Sd) : Nat → Al
  | 0 => ⟨1, numT (pickY 26 S.a), ⟨#[]⟩, pickS toLangsY S.l, pickS lat3Y S.s, pickS us3Y S.r⟩
  | 1 => ⟨2, pickS langsY S.a, pickS pairY S.b, pickS toLangsY S.l, ⟨#[]⟩, ⟨#[]⟩⟩
  | 2 => ⟨3, pickS langsY S.a, ⟨#[]⟩, pickS toLangsY S.l, pickS lat2Y S.s, pickS us3Y S.r⟩
  | 3 => ⟨4, pickS scriptsY S.a, ⟨#[]⟩, ⟨#[]⟩, pickS toScriptsY S.s, ⟨#[]⟩⟩
  | 4 => ⟨5, pickS regionsY S.a, ⟨#[]⟩, ⟨#[]⟩, ⟨#[]⟩, pickS toRegionsY S.r⟩
  | 5 => ⟨6, pickS varY S.a, ⟨#[]⟩, pickS toVarY S.l, ⟨#[]⟩, ⟨#[]⟩⟩
  | _ => ⟨7, pickS keysY S.a, pickS typesY S.b, pickS toTypesY S.l, ⟨#[]⟩, ⟨#[]⟩⟩
def madeA (S : Sd) : Al := spoiltA (baseA S (pickY 7 S.kind)) (pickY 9 S.odd)

set_option maxRecDepth 100000 in
set_option maxHeartbeats 8000000 in
theorem made_0 (S : Sd) (w : World) (hk : pickY 7 S.kind = 0) :
    Calls Tryd.prog 6 #[.agg #[.int .i64 S.kind, .int .i64 S.a, .int .i64 S.b, .int .i64 S.l, .int .i64 S.s, .int .i64 S.r, .int .i64 S.odd]] w fun e w' => e = .returned (.agg #[.int .i64 (spoiltA (baseA S 0) (pickY 9 S.odd)).k, .string (spoiltA (baseA S 0) (pickY 9 S.odd)).a, .string (spoiltA (baseA S 0) (pickY 9 S.odd)).b, .string (spoiltA (baseA S 0) (pickY 9 S.odd)).l, .string (spoiltA (baseA S 0) (pickY 9 S.odd)).s, .string (spoiltA (baseA S 0) (pickY 9 S.odd)).r]) ∧ Below w.heap.size w w' := by
  obtain ⟨b1, b2, b3, -⟩ : -(7 : Int) < Int.tmod S.kind 7 ∧ Int.tmod S.kind 7 < 7 ∧ Int.tmod (Int.tmod S.kind 7 + 7) 7 = ((pickY 7 S.kind : Nat) : Int) ∧ pickY 7 S.kind < 7 := pickY_facts 7 S.kind (by decide)
  rw [hk] at b3
  obtain ⟨o1, o2, o3, o4⟩ : -(9 : Int) < Int.tmod S.odd 9 ∧ Int.tmod S.odd 9 < 9 ∧ Int.tmod (Int.tmod S.odd 9 + 9) 9 = ((pickY 9 S.odd : Nat) : Int) ∧ pickY 9 S.odd < 9 := pickY_facts 9 S.odd (by decide)
  have HSP := Lib.hid (fun (x : Al) w' (za : x.a.size ≤ 1000) (zb : x.b.size ≤ 1000) => spoilt_any x (pickY 9 S.odd) o4 w' za zb)
  generalize pickY 9 S.odd = od at *
  generalize hr7 : Int.tmod S.kind 7 = r7 at *
  generalize hr9 : Int.tmod S.odd 9 = r9 at *
  obtain ⟨W1, hW1⟩ : ∃ W1, ((w.alloc (.cells #[.int .i64 S.kind, .int .i64 S.a, .int .i64 S.b, .int .i64 S.l, .int .i64 S.s, .int .i64 S.r, .int .i64 S.odd] 23)).alloc (.cells #[.int .i64 0, .string ⟨#[]⟩, .string ⟨#[]⟩, .string ⟨#[]⟩, .string ⟨#[]⟩, .string ⟨#[]⟩] 28)).alloc (.cells #[.int .i64 1, .string ⟨#[]⟩, .string ⟨#[]⟩, .string ⟨#[]⟩, .string ⟨#[]⟩, .string ⟨#[]⟩] 28) = W1 := ⟨_, rfl⟩
  have hI : MdI w S ⟨1, ⟨#[]⟩, ⟨#[]⟩, ⟨#[]⟩, ⟨#[]⟩, ⟨#[]⟩⟩ W1 := by
    rw [← hW1]
    refine ⟨?_, ?_, ?_, (((Below.refl _ w).alloc (Nat.le_refl _) _).alloc (by simp) _).alloc (by simp; omega) _⟩
    · exact (Below.heap_alloc _ _ _ (by simp; omega)).trans ((Below.heap_alloc _ _ _ (by simp)).trans (World.alloc_heap_new w _))
    · exact (Below.heap_alloc _ _ _ (by simp)).trans (heap_alloc2_new w _ _)
    · have := World.alloc_heap_new ((w.alloc (.cells #[.int .i64 S.kind, .int .i64 S.a, .int .i64 S.b, .int .i64 S.l, .int .i64 S.s, .int .i64 S.r, .int .i64 S.odd] 23)).alloc (.cells #[.int .i64 0, .string ⟨#[]⟩, .string ⟨#[]⟩, .string ⟨#[]⟩, .string ⟨#[]⟩, .string ⟨#[]⟩] 28)) (.cells #[.int .i64 1, .string ⟨#[]⟩, .string ⟨#[]⟩, .string ⟨#[]⟩, .string ⟨#[]⟩, .string ⟨#[]⟩] 28)
      simpa using this
  have HW1 := Lib.hid hW1
  clear hW1
  go_enter Tryd.func6, Tryd.ntmps6
  go_upto_region 7 with fail
  rw [HW1.out]
  clear HW1 b1 b2 b3 hr7
  obtain ⟨m1, m2, m3, m4⟩ : -(26 : Int) < Int.tmod S.a 26 ∧ Int.tmod S.a 26 < 26 ∧ Int.tmod (Int.tmod S.a 26 + 26) 26 = ((pickY 26 S.a : Nat) : Int) ∧ pickY 26 S.a < 26 := pickY_facts 26 S.a (by decide)
  obtain ⟨m, hm⟩ : ∃ m, pickY 26 S.a = m := ⟨_, rfl⟩
  rw [hm] at m3 m4
  have HM := Lib.hid hm
  clear hm
  generalize hra : Int.tmod S.a 26 = ra at *
  have hcv := conv_num m m4 W1
  have hs := hI.alloc (.cells #[.int .u8 (48 + (m : Int) / 10), .int .u8 (48 + (m : Int) % 10)] 5)
  obtain ⟨t0, t1, -⟩ := seed_cell hI
  obtain ⟨⟨ca0, ca1, ca2, ca3, ca4, ca5⟩, fa0, fa1, fa2, fa3, fa4, fa5⟩ := al_cells hs.a
  go_upto_region 9 with fail
  have hI2 : MdI w S ⟨1, numT m, ⟨#[]⟩, ⟨#[]⟩, ⟨#[]⟩, ⟨#[]⟩⟩ _ := hs.set 1 (.string (numT m)) rfl
  generalize hWW : (W1.alloc (.cells #[.int .u8 (48 + (m : Int) / 10), .int .u8 (48 + (m : Int) % 10)] 5)).setCell ⟨w.heap.size + 1 + 1, 1, none⟩ (.string (numT m)) = W2 at *
  clear hWW hs hcv hra m1 m2 m3 t0 t1 ca0 ca1 ca2 ca3 ca4 ca5 fa0 fa1 fa2 fa3 fa4 fa5 hI
  have hd := hI2.drew
  have hsc : W2.drew.cell? ⟨w.heap.size, 3, none⟩ = some (.int .i64 S.l) := (seed_cell hd).2.2.2.1
  have HL := Lib.hid (fun w' (h : MdI w S ⟨1, numT m, ⟨#[]⟩, ⟨#[]⟩, ⟨#[]⟩, ⟨#[]⟩⟩ w') => (toLangs_y w').mono (R' := fun e w'' => ∃ u, e = .returned u ∧ RowP w'' u toLangsY ∧ (MdI w S ⟨1, numT m, ⟨#[]⟩, ⟨#[]⟩, ⟨#[]⟩, ⟨#[]⟩⟩ w'' ∧ w''.cell? ⟨w.heap.size, 3, none⟩ = some (.int .i64 S.l) ∧ w''.cell? ⟨w.heap.size + 1 + 1, 3, none⟩ = some (.string ⟨#[]⟩) ∧ w''.frozen? ⟨w.heap.size + 1 + 1, 3, none⟩ = false)) fun e w'' ⟨u, p, q, r⟩ => by
    have h2 := h.below r
    obtain ⟨ca, fa⟩ := al_cells h2.a
    exact ⟨u, p, q, h2, (seed_cell h2).2.2.2.1, ca.2.2.2.1, fa.2.2.2.1⟩)
  go_region_held3 (fun w' => w'.cell? ⟨w.heap.size, 3, none⟩ = some (.int .i64 S.l)) (first | assumption | exact (World.cell?_setCell_other _ _ _ _ (by simp)).trans (by assumption))
    (first
    | (go_at_call 14; (with_reducible refine (HL.out _ hd).mono ?_); rintro e w5 ⟨u, rfl, hrow, hI5, c5, a5, f5⟩)
    | (go_at_call 13; (with_reducible refine (pickY_ref _ toLangsY _ _ hrow (by decide) (by decide)).mono ?_); rintro e w6 ⟨rfl, rfl⟩))
  have hI3 : MdI w S ⟨1, numT m, ⟨#[]⟩, pickS toLangsY S.l, ⟨#[]⟩, ⟨#[]⟩⟩ _ := hI5.set 3 (.string (pickS toLangsY S.l)) rfl
  generalize hWW : w5.setCell ⟨w.heap.size + 1 + 1, 3, none⟩ (.string (pickS toLangsY S.l)) = W3 at *
  clear hWW hd hsc HL hrow hI5 c5 a5 f5 hI2
  go_upto_region 10 with fail
  have hs := hI3.alloc (.cells #[.string ⟨#[]⟩, .string ⟨#[]⟩, .string ⟨#[108, 97, 116, 110]⟩] 9)
  have hrow : RowP (W3.alloc (.cells #[.string ⟨#[]⟩, .string ⟨#[]⟩, .string ⟨#[108, 97, 116, 110]⟩] 9)) (.slice (some ⟨W3.heap.size, 0, none⟩) 3 3) lat3Y := RowP.of_block lat3Y _ _ rfl (World.alloc_heap_new W3 _)
  obtain ⟨s0, s1, s2, s3, s4, s5, s6⟩ := seed_cell hs
  obtain ⟨⟨ca0, ca1, ca2, ca3, ca4, ca5⟩, fa0, fa1, fa2, fa3, fa4, fa5⟩ := al_cells hs.a
  go_upto_region 11 with (go_at_call 13; (with_reducible refine (pickY_ref _ lat3Y _ _ hrow (by decide) (by decide)).mono ?_); rintro e w6 ⟨rfl, rfl⟩)
  have hI4 : MdI w S ⟨1, numT m, ⟨#[]⟩, pickS toLangsY S.l, pickS lat3Y S.s, ⟨#[]⟩⟩ _ := hs.set 4 (.string (pickS lat3Y S.s)) rfl
  generalize hWW : (W3.alloc (.cells #[.string ⟨#[]⟩, .string ⟨#[]⟩, .string ⟨#[108, 97, 116, 110]⟩] 9)).setCell ⟨w.heap.size + 1 + 1, 4, none⟩ (.string (pickS lat3Y S.s)) = W4 at *
  clear hWW hs hrow s0 s1 s2 s3 s4 s5 s6 ca0 ca1 ca2 ca3 ca4 ca5 fa0 fa1 fa2 fa3 fa4 fa5 hI3
  have hs := hI4.alloc (.cells #[.string ⟨#[]⟩, .string ⟨#[]⟩, .string ⟨#[117, 115]⟩] 9)
  have hrow : RowP (W4.alloc (.cells #[.string ⟨#[]⟩, .string ⟨#[]⟩, .string ⟨#[117, 115]⟩] 9)) (.slice (some ⟨W4.heap.size, 0, none⟩) 3 3) us3Y := RowP.of_block us3Y _ _ rfl (World.alloc_heap_new W4 _)
  obtain ⟨s0, s1, s2, s3, s4, s5, s6⟩ := seed_cell hs
  obtain ⟨⟨ca0, ca1, ca2, ca3, ca4, ca5⟩, fa0, fa1, fa2, fa3, fa4, fa5⟩ := al_cells hs.a
  go_upto_region 30 with (go_at_call 13; (with_reducible refine (pickY_ref _ us3Y _ _ hrow (by decide) (by decide)).mono ?_); rintro e w6 ⟨rfl, rfl⟩)
  have hI5 : MdI w S ⟨1, numT m, ⟨#[]⟩, pickS toLangsY S.l, pickS lat3Y S.s, pickS us3Y S.r⟩ _ := hs.set 5 (.string (pickS us3Y S.r)) rfl
  generalize hWW : (W4.alloc (.cells #[.string ⟨#[]⟩, .string ⟨#[]⟩, .string ⟨#[117, 115]⟩] 9)).setCell ⟨w.heap.size + 1 + 1, 5, none⟩ (.string (pickS us3Y S.r)) = W5 at *
  clear hWW hs hrow s0 s1 s2 s3 s4 s5 s6 ca0 ca1 ca2 ca3 ca4 ca5 fa0 fa1 fa2 fa3 fa4 fa5 hI4
  obtain ⟨s0, s1, s2, s3, s4, s5, s6⟩ := seed_cell hI5
  obtain ⟨⟨ca0, ca1, ca2, ca3, ca4, ca5⟩, -⟩ := al_cells hI5.a
  have hR := hI5.r
  have hlt := hI5.lt
  have HBel := Lib.hid hI5.bel
  have HB := Lib.hid (show baseA S 0 = ⟨1, numT m, ⟨#[]⟩, pickS toLangsY S.l, pickS lat3Y S.s, pickS us3Y S.r⟩ by show (⟨1, numT (pickY 26 S.a), _, _, _, _⟩ : Al) = _; rw [HM.out])
  have HSx := Lib.hid (HSP.out ⟨1, numT m, ⟨#[]⟩, pickS toLangsY S.l, pickS lat3Y S.s, pickS us3Y S.r⟩ W5 (show (2 : Nat) ≤ 1000 by decide) (show (0 : Nat) ≤ 1000 by decide))
  obtain ⟨z, hz⟩ : ∃ z, spoiltA ⟨1, numT m, ⟨#[]⟩, pickS toLangsY S.l, pickS lat3Y S.s, pickS us3Y S.r⟩ od = z := ⟨_, rfl⟩
  rw [hz] at HSx
  have HZ := Lib.hid (show spoiltA (baseA S 0) od = z by rw [HB.out, hz])
  clear hz HB
  have hRR := Lib.hid (fun w' (hb : Below W5.heap.size W5 w') => (hb.block _ (by omega)).trans hR)
  clear HSP hI5 hR hk
  go_wp2_with (go_at_call 20; (with_reducible refine HSx.out.mono ?_); rintro e w6 ⟨rfl, hb6⟩; have hR6 := hRR.out _ hb6; obtain ⟨⟨c0, c1, c2, c3, c4, c5⟩, f0, f1, f2, f3, f4, f5⟩ := al_cells hR6)
  have HS := al_store hR6 (.int .i64 z.k) (.string z.a) (.string z.b) (.string z.l) (.string z.s) (.string z.r)
  refine bodyPost_ret (results_cell_row rfl _ _ (w.heap.size + 1) 28 _ (0, 0) _ rfl HS.1 Tryd.underlying28 rfl sizeAl) rfl ?_
  exact ⟨by rw [HZ.out], (HBel.out.trans (hb6.mono HBel.out.size)).trans (HS.2 _ (by omega))⟩

set_option maxRecDepth 100000 in
set_option maxHeartbeats 8000000 in
theorem made_1 (S : Sd) (w : World) (hk : pickY 7 S.kind = 1) :
    Calls Tryd.prog 6 #[.agg #[.int .i64 S.kind, .int .i64 S.a, .int .i64 S.b, .int .i64 S.l, .int .i64 S.s, .int .i64 S.r, .int .i64 S.odd]] w fun e w' => e = .returned (.agg #[.int .i64 (spoiltA (baseA S 1) (pickY 9 S.odd)).k, .string (spoiltA (baseA S 1) (pickY 9 S.odd)).a, .string (spoiltA (baseA S 1) (pickY 9 S.odd)).b, .string (spoiltA (baseA S 1) (pickY 9 S.odd)).l, .string (spoiltA (baseA S 1) (pickY 9 S.odd)).s, .string (spoiltA (baseA S 1) (pickY 9 S.odd)).r]) ∧ Below w.heap.size w w' := by
  obtain ⟨b1, b2, b3, -⟩ : -(7 : Int) < Int.tmod S.kind 7 ∧ Int.tmod S.kind 7 < 7 ∧ Int.tmod (Int.tmod S.kind 7 + 7) 7 = ((pickY 7 S.kind : Nat) : Int) ∧ pickY 7 S.kind < 7 := pickY_facts 7 S.kind (by decide)
  rw [hk] at b3
  obtain ⟨o1, o2, o3, o4⟩ : -(9 : Int) < Int.tmod S.odd 9 ∧ Int.tmod S.odd 9 < 9 ∧ Int.tmod (Int.tmod S.odd 9 + 9) 9 = ((pickY 9 S.odd : Nat) : Int) ∧ pickY 9 S.odd < 9 := pickY_facts 9 S.odd (by decide)
  have HSP := Lib.hid (fun (x : Al) w' (za : x.a.size ≤ 1000) (zb : x.b.size ≤ 1000) => spoilt_any x (pickY 9 S.odd) o4 w' za zb)
  generalize pickY 9 S.odd = od at *
  generalize hr7 : Int.tmod S.kind 7 = r7 at *
  generalize hr9 : Int.tmod S.odd 9 = r9 at *
  obtain ⟨W1, hW1⟩ : ∃ W1, ((w.alloc (.cells #[.int .i64 S.kind, .int .i64 S.a, .int .i64 S.b, .int .i64 S.l, .int .i64 S.s, .int .i64 S.r, .int .i64 S.odd] 23)).alloc (.cells #[.int .i64 0, .string ⟨#[]⟩, .string ⟨#[]⟩, .string ⟨#[]⟩, .string ⟨#[]⟩, .string ⟨#[]⟩] 28)).alloc (.cells #[.int .i64 2, .string ⟨#[]⟩, .string ⟨#[]⟩, .string ⟨#[]⟩, .string ⟨#[]⟩, .string ⟨#[]⟩] 28) = W1 := ⟨_, rfl⟩
  have hI : MdI w S ⟨2, ⟨#[]⟩, ⟨#[]⟩, ⟨#[]⟩, ⟨#[]⟩, ⟨#[]⟩⟩ W1 := by
    rw [← hW1]
    refine ⟨?_, ?_, ?_, (((Below.refl _ w).alloc (Nat.le_refl _) _).alloc (by simp) _).alloc (by simp; omega) _⟩
    · exact (Below.heap_alloc _ _ _ (by simp; omega)).trans ((Below.heap_alloc _ _ _ (by simp)).trans (World.alloc_heap_new w _))
    · exact (Below.heap_alloc _ _ _ (by simp)).trans (heap_alloc2_new w _ _)
    · have := World.alloc_heap_new ((w.alloc (.cells #[.int .i64 S.kind, .int .i64 S.a, .int .i64 S.b, .int .i64 S.l, .int .i64 S.s, .int .i64 S.r, .int .i64 S.odd] 23)).alloc (.cells #[.int .i64 0, .string ⟨#[]⟩, .string ⟨#[]⟩, .string ⟨#[]⟩, .string ⟨#[]⟩, .string ⟨#[]⟩] 28)) (.cells #[.int .i64 2, .string ⟨#[]⟩, .string ⟨#[]⟩, .string ⟨#[]⟩, .string ⟨#[]⟩, .string ⟨#[]⟩] 28)
      simpa using this
  have HW1 := Lib.hid hW1
  clear hW1
  go_enter Tryd.func6, Tryd.ntmps6
  go_upto_region 13 with fail
  rw [HW1.out]
  clear HW1 b1 b2 b3 hr7
  have hd := hI.drew
  have hsc : W1.drew.cell? ⟨w.heap.size, 1, none⟩ = some (.int .i64 S.a) := (seed_cell hd).2.1
  have HL := Lib.hid (fun w' (h : MdI w S ⟨2, ⟨#[]⟩, ⟨#[]⟩, ⟨#[]⟩, ⟨#[]⟩, ⟨#[]⟩⟩ w') => (langs_y w').mono (R' := fun e w'' => ∃ u, e = .returned u ∧ RowP w'' u langsY ∧ (MdI w S ⟨2, ⟨#[]⟩, ⟨#[]⟩, ⟨#[]⟩, ⟨#[]⟩, ⟨#[]⟩⟩ w'' ∧ w''.cell? ⟨w.heap.size, 1, none⟩ = some (.int .i64 S.a) ∧ w''.cell? ⟨w.heap.size + 1 + 1, 1, none⟩ = some (.string ⟨#[]⟩) ∧ w''.frozen? ⟨w.heap.size + 1 + 1, 1, none⟩ = false)) fun e w'' ⟨u, p, q, r⟩ => by
    have h2 := h.below r
    obtain ⟨ca, fa⟩ := al_cells h2.a
    exact ⟨u, p, q, h2, (seed_cell h2).2.1, ca.2.1, fa.2.1⟩)
  go_region_held3 (fun w' => w'.cell? ⟨w.heap.size, 1, none⟩ = some (.int .i64 S.a)) (first | assumption | exact (World.cell?_setCell_other _ _ _ _ (by simp)).trans (by assumption))
    (first
    | (go_at_call 15; (with_reducible refine (HL.out _ hd).mono ?_); rintro e w5 ⟨u, rfl, hrow, hI5, c5, a5, f5⟩)
    | (go_at_call 13; (with_reducible refine (pickY_ref _ langsY _ _ hrow (by decide) (by decide)).mono ?_); rintro e w6 ⟨rfl, rfl⟩))
  have hI2 : MdI w S ⟨2, pickS langsY S.a, ⟨#[]⟩, ⟨#[]⟩, ⟨#[]⟩, ⟨#[]⟩⟩ _ := hI5.set 1 (.string (pickS langsY S.a)) rfl
  generalize hWW : w5.setCell ⟨w.heap.size + 1 + 1, 1, none⟩ (.string (pickS langsY S.a)) = W2 at *
  clear hWW hd hsc HL hrow hI5 c5 a5 f5 hI
  go_upto_region 14 with fail
  have hs := hI2.alloc (.cells #[.string ⟨#[98, 114]⟩, .string ⟨#[99, 110]⟩, .string ⟨#[117, 115]⟩, .string ⟨#[100, 100]⟩] 9)
  have hrow : RowP (W2.alloc (.cells #[.string ⟨#[98, 114]⟩, .string ⟨#[99, 110]⟩, .string ⟨#[117, 115]⟩, .string ⟨#[100, 100]⟩] 9)) (.slice (some ⟨W2.heap.size, 0, none⟩) 4 4) pairY := RowP.of_block pairY _ _ rfl (World.alloc_heap_new W2 _)
  obtain ⟨s0, s1, s2, s3, s4, s5, s6⟩ := seed_cell hs
  obtain ⟨⟨ca0, ca1, ca2, ca3, ca4, ca5⟩, fa0, fa1, fa2, fa3, fa4, fa5⟩ := al_cells hs.a
  go_upto_region 15 with (go_at_call 13; (with_reducible refine (pickY_ref _ pairY _ _ hrow (by decide) (by decide)).mono ?_); rintro e w6 ⟨rfl, rfl⟩)
  have hI3 : MdI w S ⟨2, pickS langsY S.a, pickS pairY S.b, ⟨#[]⟩, ⟨#[]⟩, ⟨#[]⟩⟩ _ := hs.set 2 (.string (pickS pairY S.b)) rfl
  generalize hWW : (W2.alloc (.cells #[.string ⟨#[98, 114]⟩, .string ⟨#[99, 110]⟩, .string ⟨#[117, 115]⟩, .string ⟨#[100, 100]⟩] 9)).setCell ⟨w.heap.size + 1 + 1, 2, none⟩ (.string (pickS pairY S.b)) = W3 at *
  clear hWW hs hrow s0 s1 s2 s3 s4 s5 s6 ca0 ca1 ca2 ca3 ca4 ca5 fa0 fa1 fa2 fa3 fa4 fa5 hI2
  have hd := hI3.drew
  have hsc : W3.drew.cell? ⟨w.heap.size, 3, none⟩ = some (.int .i64 S.l) := (seed_cell hd).2.2.2.1
  have HL := Lib.hid (fun w' (h : MdI w S ⟨2, pickS langsY S.a, pickS pairY S.b, ⟨#[]⟩, ⟨#[]⟩, ⟨#[]⟩⟩ w') => (toLangs_y w').mono (R' := fun e w'' => ∃ u, e = .returned u ∧ RowP w'' u toLangsY ∧ (MdI w S ⟨2, pickS langsY S.a, pickS pairY S.b, ⟨#[]⟩, ⟨#[]⟩, ⟨#[]⟩⟩ w'' ∧ w''.cell? ⟨w.heap.size, 3, none⟩ = some (.int .i64 S.l) ∧ w''.cell? ⟨w.heap.size + 1 + 1, 3, none⟩ = some (.string ⟨#[]⟩) ∧ w''.frozen? ⟨w.heap.size + 1 + 1, 3, none⟩ = false)) fun e w'' ⟨u, p, q, r⟩ => by
    have h2 := h.below r
    obtain ⟨ca, fa⟩ := al_cells h2.a
    exact ⟨u, p, q, h2, (seed_cell h2).2.2.2.1, ca.2.2.2.1, fa.2.2.2.1⟩)
  go_region_held3 (fun w' => w'.cell? ⟨w.heap.size, 3, none⟩ = some (.int .i64 S.l)) (first | assumption | exact (World.cell?_setCell_other _ _ _ _ (by simp)).trans (by assumption))
    (first
    | (go_at_call 14; (with_reducible refine (HL.out _ hd).mono ?_); rintro e w5 ⟨u, rfl, hrow, hI5, c5, a5, f5⟩)
    | (go_at_call 13; (with_reducible refine (pickY_ref _ toLangsY _ _ hrow (by decide) (by decide)).mono ?_); rintro e w6 ⟨rfl, rfl⟩))
  have hI4 : MdI w S ⟨2, pickS langsY S.a, pickS pairY S.b, pickS toLangsY S.l, ⟨#[]⟩, ⟨#[]⟩⟩ _ := hI5.set 3 (.string (pickS toLangsY S.l)) rfl
  generalize hWW : w5.setCell ⟨w.heap.size + 1 + 1, 3, none⟩ (.string (pickS toLangsY S.l)) = W4 at *
  clear hWW hd hsc HL hrow hI5 c5 a5 f5 hI3
  go_upto_region 30 with fail
  obtain ⟨s0, s1, s2, s3, s4, s5, s6⟩ := seed_cell hI4
  obtain ⟨⟨ca0, ca1, ca2, ca3, ca4, ca5⟩, -⟩ := al_cells hI4.a
  have hR := hI4.r
  have hlt := hI4.lt
  have HBel := Lib.hid hI4.bel
  have HB := Lib.hid (show baseA S 1 = ⟨2, pickS langsY S.a, pickS pairY S.b, pickS toLangsY S.l, ⟨#[]⟩, ⟨#[]⟩⟩ from rfl)
  have HSx := Lib.hid (HSP.out ⟨2, pickS langsY S.a, pickS pairY S.b, pickS toLangsY S.l, ⟨#[]⟩, ⟨#[]⟩⟩ W4 (pickS_size (by decide) (by decide)) (pickS_size (by decide) (by decide)))
  obtain ⟨z, hz⟩ : ∃ z, spoiltA ⟨2, pickS langsY S.a, pickS pairY S.b, pickS toLangsY S.l, ⟨#[]⟩, ⟨#[]⟩⟩ od = z := ⟨_, rfl⟩
  rw [hz] at HSx
  have HZ := Lib.hid (show spoiltA (baseA S 1) od = z by rw [HB.out, hz])
  clear hz HB
  have hRR := Lib.hid (fun w' (hb : Below W4.heap.size W4 w') => (hb.block _ (by omega)).trans hR)
  clear HSP hI4 hR hk
  go_wp2_with (go_at_call 20; (with_reducible refine HSx.out.mono ?_); rintro e w6 ⟨rfl, hb6⟩; have hR6 := hRR.out _ hb6; obtain ⟨⟨c0, c1, c2, c3, c4, c5⟩, f0, f1, f2, f3, f4, f5⟩ := al_cells hR6)
  have HS := al_store hR6 (.int .i64 z.k) (.string z.a) (.string z.b) (.string z.l) (.string z.s) (.string z.r)
  refine bodyPost_ret (results_cell_row rfl _ _ (w.heap.size + 1) 28 _ (0, 0) _ rfl HS.1 Tryd.underlying28 rfl sizeAl) rfl ?_
  exact ⟨by rw [HZ.out], (HBel.out.trans (hb6.mono HBel.out.size)).trans (HS.2 _ (by omega))⟩

set_option maxRecDepth 100000 in
set_option maxHeartbeats 8000000 in
theorem made_2 (S : Sd) (w : World) (hk : pickY 7 S.kind = 2) :
    Calls Tryd.prog 6 #[.agg #[.int .i64 S.kind, .int .i64 S.a, .int .i64 S.b, .int .i64 S.l, .int .i64 S.s, .int .i64 S.r, .int .i64 S.odd]] w fun e w' => e = .returned (.agg #[.int .i64 (spoiltA (baseA S 2) (pickY 9 S.odd)).k, .string (spoiltA (baseA S 2) (pickY 9 S.odd)).a, .string (spoiltA (baseA S 2) (pickY 9 S.odd)).b, .string (spoiltA (baseA S 2) (pickY 9 S.odd)).l, .string (spoiltA (baseA S 2) (pickY 9 S.odd)).s, .string (spoiltA (baseA S 2) (pickY 9 S.odd)).r]) ∧ Below w.heap.size w w' := by
  obtain ⟨b1, b2, b3, -⟩ : -(7 : Int) < Int.tmod S.kind 7 ∧ Int.tmod S.kind 7 < 7 ∧ Int.tmod (Int.tmod S.kind 7 + 7) 7 = ((pickY 7 S.kind : Nat) : Int) ∧ pickY 7 S.kind < 7 := pickY_facts 7 S.kind (by decide)
  rw [hk] at b3
  obtain ⟨o1, o2, o3, o4⟩ : -(9 : Int) < Int.tmod S.odd 9 ∧ Int.tmod S.odd 9 < 9 ∧ Int.tmod (Int.tmod S.odd 9 + 9) 9 = ((pickY 9 S.odd : Nat) : Int) ∧ pickY 9 S.odd < 9 := pickY_facts 9 S.odd (by decide)
  have HSP := Lib.hid (fun (x : Al) w' (za : x.a.size ≤ 1000) (zb : x.b.size ≤ 1000) => spoilt_any x (pickY 9 S.odd) o4 w' za zb)
  generalize pickY 9 S.odd = od at *
  generalize hr7 : Int.tmod S.kind 7 = r7 at *
  generalize hr9 : Int.tmod S.odd 9 = r9 at *
  obtain ⟨W1, hW1⟩ : ∃ W1, ((w.alloc (.cells #[.int .i64 S.kind, .int .i64 S.a, .int .i64 S.b, .int .i64 S.l, .int .i64 S.s, .int .i64 S.r, .int .i64 S.odd] 23)).alloc (.cells #[.int .i64 0, .string ⟨#[]⟩, .string ⟨#[]⟩, .string ⟨#[]⟩, .string ⟨#[]⟩, .string ⟨#[]⟩] 28)).alloc (.cells #[.int .i64 3, .string ⟨#[]⟩, .string ⟨#[]⟩, .string ⟨#[]⟩, .string ⟨#[]⟩, .string ⟨#[]⟩] 28) = W1 := ⟨_, rfl⟩
  have hI : MdI w S ⟨3, ⟨#[]⟩, ⟨#[]⟩, ⟨#[]⟩, ⟨#[]⟩, ⟨#[]⟩⟩ W1 := by
    rw [← hW1]
    refine ⟨?_, ?_, ?_, (((Below.refl _ w).alloc (Nat.le_refl _) _).alloc (by simp) _).alloc (by simp; omega) _⟩
    · exact (Below.heap_alloc _ _ _ (by simp; omega)).trans ((Below.heap_alloc _ _ _ (by simp)).trans (World.alloc_heap_new w _))
    · exact (Below.heap_alloc _ _ _ (by simp)).trans (heap_alloc2_new w _ _)
    · have := World.alloc_heap_new ((w.alloc (.cells #[.int .i64 S.kind, .int .i64 S.a, .int .i64 S.b, .int .i64 S.l, .int .i64 S.s, .int .i64 S.r, .int .i64 S.odd] 23)).alloc (.cells #[.int .i64 0, .string ⟨#[]⟩, .string ⟨#[]⟩, .string ⟨#[]⟩, .string ⟨#[]⟩, .string ⟨#[]⟩] 28)) (.cells #[.int .i64 3, .string ⟨#[]⟩, .string ⟨#[]⟩, .string ⟨#[]⟩, .string ⟨#[]⟩, .string ⟨#[]⟩] 28)
      simpa using this
  have HW1 := Lib.hid hW1
  clear hW1
  go_enter Tryd.func6, Tryd.ntmps6
  go_upto_region 17 with fail
  rw [HW1.out]
  clear HW1 b1 b2 b3 hr7
  have hd := hI.drew
  have hsc : W1.drew.cell? ⟨w.heap.size, 1, none⟩ = some (.int .i64 S.a) := (seed_cell hd).2.1
  have HL := Lib.hid (fun w' (h : MdI w S ⟨3, ⟨#[]⟩, ⟨#[]⟩, ⟨#[]⟩, ⟨#[]⟩, ⟨#[]⟩⟩ w') => (langs_y w').mono (R' := fun e w'' => ∃ u, e = .returned u ∧ RowP w'' u langsY ∧ (MdI w S ⟨3, ⟨#[]⟩, ⟨#[]⟩, ⟨#[]⟩, ⟨#[]⟩, ⟨#[]⟩⟩ w'' ∧ w''.cell? ⟨w.heap.size, 1, none⟩ = some (.int .i64 S.a) ∧ w''.cell? ⟨w.heap.size + 1 + 1, 1, none⟩ = some (.string ⟨#[]⟩) ∧ w''.frozen? ⟨w.heap.size + 1 + 1, 1, none⟩ = false)) fun e w'' ⟨u, p, q, r⟩ => by
    have h2 := h.below r
    obtain ⟨ca, fa⟩ := al_cells h2.a
    exact ⟨u, p, q, h2, (seed_cell h2).2.1, ca.2.1, fa.2.1⟩)
  go_region_held3 (fun w' => w'.cell? ⟨w.heap.size, 1, none⟩ = some (.int .i64 S.a)) (first | assumption | exact (World.cell?_setCell_other _ _ _ _ (by simp)).trans (by assumption))
    (first
    | (go_at_call 15; (with_reducible refine (HL.out _ hd).mono ?_); rintro e w5 ⟨u, rfl, hrow, hI5, c5, a5, f5⟩)
    | (go_at_call 13; (with_reducible refine (pickY_ref _ langsY _ _ hrow (by decide) (by decide)).mono ?_); rintro e w6 ⟨rfl, rfl⟩))
  have hI2 : MdI w S ⟨3, pickS langsY S.a, ⟨#[]⟩, ⟨#[]⟩, ⟨#[]⟩, ⟨#[]⟩⟩ _ := hI5.set 1 (.string (pickS langsY S.a)) rfl
  generalize hWW : w5.setCell ⟨w.heap.size + 1 + 1, 1, none⟩ (.string (pickS langsY S.a)) = W2 at *
  clear hWW hd hsc HL hrow hI5 c5 a5 f5 hI
  go_upto_region 18 with fail
  have hd := hI2.drew
  have hsc : W2.drew.cell? ⟨w.heap.size, 3, none⟩ = some (.int .i64 S.l) := (seed_cell hd).2.2.2.1
  have HL := Lib.hid (fun w' (h : MdI w S ⟨3, pickS langsY S.a, ⟨#[]⟩, ⟨#[]⟩, ⟨#[]⟩, ⟨#[]⟩⟩ w') => (toLangs_y w').mono (R' := fun e w'' => ∃ u, e = .returned u ∧ RowP w'' u toLangsY ∧ (MdI w S ⟨3, pickS langsY S.a, ⟨#[]⟩, ⟨#[]⟩, ⟨#[]⟩, ⟨#[]⟩⟩ w'' ∧ w''.cell? ⟨w.heap.size, 3, none⟩ = some (.int .i64 S.l) ∧ w''.cell? ⟨w.heap.size + 1 + 1, 3, none⟩ = some (.string ⟨#[]⟩) ∧ w''.frozen? ⟨w.heap.size + 1 + 1, 3, none⟩ = false)) fun e w'' ⟨u, p, q, r⟩ => by
    have h2 := h.below r
    obtain ⟨ca, fa⟩ := al_cells h2.a
    exact ⟨u, p, q, h2, (seed_cell h2).2.2.2.1, ca.2.2.2.1, fa.2.2.2.1⟩)
  go_region_held3 (fun w' => w'.cell? ⟨w.heap.size, 3, none⟩ = some (.int .i64 S.l)) (first | assumption | exact (World.cell?_setCell_other _ _ _ _ (by simp)).trans (by assumption))
    (first
    | (go_at_call 14; (with_reducible refine (HL.out _ hd).mono ?_); rintro e w5 ⟨u, rfl, hrow, hI5, c5, a5, f5⟩)
    | (go_at_call 13; (with_reducible refine (pickY_ref _ toLangsY _ _ hrow (by decide) (by decide)).mono ?_); rintro e w6 ⟨rfl, rfl⟩))
  have hI3 : MdI w S ⟨3, pickS langsY S.a, ⟨#[]⟩, pickS toLangsY S.l, ⟨#[]⟩, ⟨#[]⟩⟩ _ := hI5.set 3 (.string (pickS toLangsY S.l)) rfl
  generalize hWW : w5.setCell ⟨w.heap.size + 1 + 1, 3, none⟩ (.string (pickS toLangsY S.l)) = W3 at *
  clear hWW hd hsc HL hrow hI5 c5 a5 f5 hI2
  go_upto_region 19 with fail
  have hs := hI3.alloc (.cells #[.string ⟨#[]⟩, .string ⟨#[108, 97, 116, 110]⟩] 9)
  have hrow : RowP (W3.alloc (.cells #[.string ⟨#[]⟩, .string ⟨#[108, 97, 116, 110]⟩] 9)) (.slice (some ⟨W3.heap.size, 0, none⟩) 2 2) lat2Y := RowP.of_block lat2Y _ _ rfl (World.alloc_heap_new W3 _)
  obtain ⟨s0, s1, s2, s3, s4, s5, s6⟩ := seed_cell hs
  obtain ⟨⟨ca0, ca1, ca2, ca3, ca4, ca5⟩, fa0, fa1, fa2, fa3, fa4, fa5⟩ := al_cells hs.a
  go_upto_region 20 with (go_at_call 13; (with_reducible refine (pickY_ref _ lat2Y _ _ hrow (by decide) (by decide)).mono ?_); rintro e w6 ⟨rfl, rfl⟩)
  have hI4 : MdI w S ⟨3, pickS langsY S.a, ⟨#[]⟩, pickS toLangsY S.l, pickS lat2Y S.s, ⟨#[]⟩⟩ _ := hs.set 4 (.string (pickS lat2Y S.s)) rfl
  generalize hWW : (W3.alloc (.cells #[.string ⟨#[]⟩, .string ⟨#[108, 97, 116, 110]⟩] 9)).setCell ⟨w.heap.size + 1 + 1, 4, none⟩ (.string (pickS lat2Y S.s)) = W4 at *
  clear hWW hs hrow s0 s1 s2 s3 s4 s5 s6 ca0 ca1 ca2 ca3 ca4 ca5 fa0 fa1 fa2 fa3 fa4 fa5 hI3
  have hs := hI4.alloc (.cells #[.string ⟨#[]⟩, .string ⟨#[]⟩, .string ⟨#[117, 115]⟩] 9)
  have hrow : RowP (W4.alloc (.cells #[.string ⟨#[]⟩, .string ⟨#[]⟩, .string ⟨#[117, 115]⟩] 9)) (.slice (some ⟨W4.heap.size, 0, none⟩) 3 3) us3Y := RowP.of_block us3Y _ _ rfl (World.alloc_heap_new W4 _)
  obtain ⟨s0, s1, s2, s3, s4, s5, s6⟩ := seed_cell hs
  obtain ⟨⟨ca0, ca1, ca2, ca3, ca4, ca5⟩, fa0, fa1, fa2, fa3, fa4, fa5⟩ := al_cells hs.a
  go_upto_region 30 with (go_at_call 13; (with_reducible refine (pickY_ref _ us3Y _ _ hrow (by decide) (by decide)).mono ?_); rintro e w6 ⟨rfl, rfl⟩)
  have hI5 : MdI w S ⟨3, pickS langsY S.a, ⟨#[]⟩, pickS toLangsY S.l, pickS lat2Y S.s, pickS us3Y S.r⟩ _ := hs.set 5 (.string (pickS us3Y S.r)) rfl
  generalize hWW : (W4.alloc (.cells #[.string ⟨#[]⟩, .string ⟨#[]⟩, .string ⟨#[117, 115]⟩] 9)).setCell ⟨w.heap.size + 1 + 1, 5, none⟩ (.string (pickS us3Y S.r)) = W5 at *
  clear hWW hs hrow s0 s1 s2 s3 s4 s5 s6 ca0 ca1 ca2 ca3 ca4 ca5 fa0 fa1 fa2 fa3 fa4 fa5 hI4
  obtain ⟨s0, s1, s2, s3, s4, s5, s6⟩ := seed_cell hI5
  obtain ⟨⟨ca0, ca1, ca2, ca3, ca4, ca5⟩, -⟩ := al_cells hI5.a
  have hR := hI5.r
  have hlt := hI5.lt
  have HBel := Lib.hid hI5.bel
  have HB := Lib.hid (show baseA S 2 = ⟨3, pickS langsY S.a, ⟨#[]⟩, pickS toLangsY S.l, pickS lat2Y S.s, pickS us3Y S.r⟩ from rfl)
  have HSx := Lib.hid (HSP.out ⟨3, pickS langsY S.a, ⟨#[]⟩, pickS toLangsY S.l, pickS lat2Y S.s, pickS us3Y S.r⟩ W5 (pickS_size (by decide) (by decide)) (show (0 : Nat) ≤ 1000 by decide))
  obtain ⟨z, hz⟩ : ∃ z, spoiltA ⟨3, pickS langsY S.a, ⟨#[]⟩, pickS toLangsY S.l, pickS lat2Y S.s, pickS us3Y S.r⟩ od = z := ⟨_, rfl⟩
  rw [hz] at HSx
  have HZ := Lib.hid (show spoiltA (baseA S 2) od = z by rw [HB.out, hz])
  clear hz HB
  have hRR := Lib.hid (fun w' (hb : Below W5.heap.size W5 w') => (hb.block _ (by omega)).trans hR)
  clear HSP hI5 hR hk
  go_wp2_with (go_at_call 20; (with_reducible refine HSx.out.mono ?_); rintro e w6 ⟨rfl, hb6⟩; have hR6 := hRR.out _ hb6; obtain ⟨⟨c0, c1, c2, c3, c4, c5⟩, f0, f1, f2, f3, f4, f5⟩ := al_cells hR6)
  have HS := al_store hR6 (.int .i64 z.k) (.string z.a) (.string z.b) (.string z.l) (.string z.s) (.string z.r)
  refine bodyPost_ret (results_cell_row rfl _ _ (w.heap.size + 1) 28 _ (0, 0) _ rfl HS.1 Tryd.underlying28 rfl sizeAl) rfl ?_
  exact ⟨by rw [HZ.out], (HBel.out.trans (hb6.mono HBel.out.size)).trans (HS.2 _ (by omega))⟩

set_option maxRecDepth 100000 in
set_option maxHeartbeats 8000000 in
theorem made_3 (S : Sd) (w : World) (hk : pickY 7 S.kind = 3) :
    Calls Tryd.prog 6 #[.agg #[.int .i64 S.kind, .int .i64 S.a, .int .i64 S.b, .int .i64 S.l, .int .i64 S.s, .int .i64 S.r, .int .i64 S.odd]] w fun e w' => e = .returned (.agg #[.int .i64 (spoiltA (baseA S 3) (pickY 9 S.odd)).k, .string (spoiltA (baseA S 3) (pickY 9 S.odd)).a, .string (spoiltA (baseA S 3) (pickY 9 S.odd)).b, .string (spoiltA (baseA S 3) (pickY 9 S.odd)).l, .string (spoiltA (baseA S 3) (pickY 9 S.odd)).s, .string (spoiltA (baseA S 3) (pickY 9 S.odd)).r]) ∧ Below w.heap.size w w' := by
  obtain ⟨b1, b2, b3, -⟩ : -(7 : Int) < Int.tmod S.kind 7 ∧ Int.tmod S.kind 7 < 7 ∧ Int.tmod (Int.tmod S.kind 7 + 7) 7 = ((pickY 7 S.kind : Nat) : Int) ∧ pickY 7 S.kind < 7 := pickY_facts 7 S.kind (by decide)
  rw [hk] at b3
  obtain ⟨o1, o2, o3, o4⟩ : -(9 : Int) < Int.tmod S.odd 9 ∧ Int.tmod S.odd 9 < 9 ∧ Int.tmod (Int.tmod S.odd 9 + 9) 9 = ((pickY 9 S.odd : Nat) : Int) ∧ pickY 9 S.odd < 9 := pickY_facts 9 S.odd (by decide)
  have HSP := Lib.hid (fun (x : Al) w' (za : x.a.size ≤ 1000) (zb : x.b.size ≤ 1000) => spoilt_any x (pickY 9 S.odd) o4 w' za zb)
  generalize pickY 9 S.odd = od at *
  generalize hr7 : Int.tmod S.kind 7 = r7 at *
  generalize hr9 : Int.tmod S.odd 9 = r9 at *
  obtain ⟨W1, hW1⟩ : ∃ W1, ((w.alloc (.cells #[.int .i64 S.kind, .int .i64 S.a, .int .i64 S.b, .int .i64 S.l, .int .i64 S.s, .int .i64 S.r, .int .i64 S.odd] 23)).alloc (.cells #[.int .i64 0, .string ⟨#[]⟩, .string ⟨#[]⟩, .string ⟨#[]⟩, .string ⟨#[]⟩, .string ⟨#[]⟩] 28)).alloc (.cells #[.int .i64 4, .string ⟨#[]⟩, .string ⟨#[]⟩, .string ⟨#[]⟩, .string ⟨#[]⟩, .string ⟨#[]⟩] 28) = W1 := ⟨_, rfl⟩
  have hI : MdI w S ⟨4, ⟨#[]⟩, ⟨#[]⟩, ⟨#[]⟩, ⟨#[]⟩, ⟨#[]⟩⟩ W1 := by
    rw [← hW1]
    refine ⟨?_, ?_, ?_, (((Below.refl _ w).alloc (Nat.le_refl _) _).alloc (by simp) _).alloc (by simp; omega) _⟩
    · exact (Below.heap_alloc _ _ _ (by simp; omega)).trans ((Below.heap_alloc _ _ _ (by simp)).trans (World.alloc_heap_new w _))
    · exact (Below.heap_alloc _ _ _ (by simp)).trans (heap_alloc2_new w _ _)
    · have := World.alloc_heap_new ((w.alloc (.cells #[.int .i64 S.kind, .int .i64 S.a, .int .i64 S.b, .int .i64 S.l, .int .i64 S.s, .int .i64 S.r, .int .i64 S.odd] 23)).alloc (.cells #[.int .i64 0, .string ⟨#[]⟩, .string ⟨#[]⟩, .string ⟨#[]⟩, .string ⟨#[]⟩, .string ⟨#[]⟩] 28)) (.cells #[.int .i64 4, .string ⟨#[]⟩, .string ⟨#[]⟩, .string ⟨#[]⟩, .string ⟨#[]⟩, .string ⟨#[]⟩] 28)
      simpa using this
  have HW1 := Lib.hid hW1
  clear hW1
  go_enter Tryd.func6, Tryd.ntmps6
  go_upto_region 22 with fail
  rw [HW1.out]
  clear HW1 b1 b2 b3 hr7
  have hd := hI.drew
  have hsc : W1.drew.cell? ⟨w.heap.size, 1, none⟩ = some (.int .i64 S.a) := (seed_cell hd).2.1
  have HL := Lib.hid (fun w' (h : MdI w S ⟨4, ⟨#[]⟩, ⟨#[]⟩, ⟨#[]⟩, ⟨#[]⟩, ⟨#[]⟩⟩ w') => (scripts_y w').mono (R' := fun e w'' => ∃ u, e = .returned u ∧ RowP w'' u scriptsY ∧ (MdI w S ⟨4, ⟨#[]⟩, ⟨#[]⟩, ⟨#[]⟩, ⟨#[]⟩, ⟨#[]⟩⟩ w'' ∧ w''.cell? ⟨w.heap.size, 1, none⟩ = some (.int .i64 S.a) ∧ w''.cell? ⟨w.heap.size + 1 + 1, 1, none⟩ = some (.string ⟨#[]⟩) ∧ w''.frozen? ⟨w.heap.size + 1 + 1, 1, none⟩ = false)) fun e w'' ⟨u, p, q, r⟩ => by
    have h2 := h.below r
    obtain ⟨ca, fa⟩ := al_cells h2.a
    exact ⟨u, p, q, h2, (seed_cell h2).2.1, ca.2.1, fa.2.1⟩)
  go_region_held3 (fun w' => w'.cell? ⟨w.heap.size, 1, none⟩ = some (.int .i64 S.a)) (first | assumption | exact (World.cell?_setCell_other _ _ _ _ (by simp)).trans (by assumption))
    (first
    | (go_at_call 16; (with_reducible refine (HL.out _ hd).mono ?_); rintro e w5 ⟨u, rfl, hrow, hI5, c5, a5, f5⟩)
    | (go_at_call 13; (with_reducible refine (pickY_ref _ scriptsY _ _ hrow (by decide) (by decide)).mono ?_); rintro e w6 ⟨rfl, rfl⟩))
  have hI2 : MdI w S ⟨4, pickS scriptsY S.a, ⟨#[]⟩, ⟨#[]⟩, ⟨#[]⟩, ⟨#[]⟩⟩ _ := hI5.set 1 (.string (pickS scriptsY S.a)) rfl
  generalize hWW : w5.setCell ⟨w.heap.size + 1 + 1, 1, none⟩ (.string (pickS scriptsY S.a)) = W2 at *
  clear hWW hd hsc HL hrow hI5 c5 a5 f5 hI
  go_upto_region 23 with fail
  have hd := hI2.drew
  have hsc : W2.drew.cell? ⟨w.heap.size, 4, none⟩ = some (.int .i64 S.s) := (seed_cell hd).2.2.2.2.1
  have HL := Lib.hid (fun w' (h : MdI w S ⟨4, pickS scriptsY S.a, ⟨#[]⟩, ⟨#[]⟩, ⟨#[]⟩, ⟨#[]⟩⟩ w') => (toScripts_y w').mono (R' := fun e w'' => ∃ u, e = .returned u ∧ RowP w'' u toScriptsY ∧ (MdI w S ⟨4, pickS scriptsY S.a, ⟨#[]⟩, ⟨#[]⟩, ⟨#[]⟩, ⟨#[]⟩⟩ w'' ∧ w''.cell? ⟨w.heap.size, 4, none⟩ = some (.int .i64 S.s) ∧ w''.cell? ⟨w.heap.size + 1 + 1, 4, none⟩ = some (.string ⟨#[]⟩) ∧ w''.frozen? ⟨w.heap.size + 1 + 1, 4, none⟩ = false)) fun e w'' ⟨u, p, q, r⟩ => by
    have h2 := h.below r
    obtain ⟨ca, fa⟩ := al_cells h2.a
    exact ⟨u, p, q, h2, (seed_cell h2).2.2.2.2.1, ca.2.2.2.2.1, fa.2.2.2.2.1⟩)
  go_region_held3 (fun w' => w'.cell? ⟨w.heap.size, 4, none⟩ = some (.int .i64 S.s)) (first | assumption | exact (World.cell?_setCell_other _ _ _ _ (by simp)).trans (by assumption))
    (first
    | (go_at_call 17; (with_reducible refine (HL.out _ hd).mono ?_); rintro e w5 ⟨u, rfl, hrow, hI5, c5, a5, f5⟩)
    | (go_at_call 13; (with_reducible refine (pickY_ref _ toScriptsY _ _ hrow (by decide) (by decide)).mono ?_); rintro e w6 ⟨rfl, rfl⟩))
  have hI3 : MdI w S ⟨4, pickS scriptsY S.a, ⟨#[]⟩, ⟨#[]⟩, pickS toScriptsY S.s, ⟨#[]⟩⟩ _ := hI5.set 4 (.string (pickS toScriptsY S.s)) rfl
  generalize hWW : w5.setCell ⟨w.heap.size + 1 + 1, 4, none⟩ (.string (pickS toScriptsY S.s)) = W3 at *
  clear hWW hd hsc HL hrow hI5 c5 a5 f5 hI2
  go_upto_region 30 with fail
  obtain ⟨s0, s1, s2, s3, s4, s5, s6⟩ := seed_cell hI3
  obtain ⟨⟨ca0, ca1, ca2, ca3, ca4, ca5⟩, -⟩ := al_cells hI3.a
  have hR := hI3.r
  have hlt := hI3.lt
  have HBel := Lib.hid hI3.bel
  have HB := Lib.hid (show baseA S 3 = ⟨4, pickS scriptsY S.a, ⟨#[]⟩, ⟨#[]⟩, pickS toScriptsY S.s, ⟨#[]⟩⟩ from rfl)
  have HSx := Lib.hid (HSP.out ⟨4, pickS scriptsY S.a, ⟨#[]⟩, ⟨#[]⟩, pickS toScriptsY S.s, ⟨#[]⟩⟩ W3 (pickS_size (by decide) (by decide)) (show (0 : Nat) ≤ 1000 by decide))
  obtain ⟨z, hz⟩ : ∃ z, spoiltA ⟨4, pickS scriptsY S.a, ⟨#[]⟩, ⟨#[]⟩, pickS toScriptsY S.s, ⟨#[]⟩⟩ od = z := ⟨_, rfl⟩
  rw [hz] at HSx
  have HZ := Lib.hid (show spoiltA (baseA S 3) od = z by rw [HB.out, hz])
  clear hz HB
  have hRR := Lib.hid (fun w' (hb : Below W3.heap.size W3 w') => (hb.block _ (by omega)).trans hR)
  clear HSP hI3 hR hk
  go_wp2_with (go_at_call 20; (with_reducible refine HSx.out.mono ?_); rintro e w6 ⟨rfl, hb6⟩; have hR6 := hRR.out _ hb6; obtain ⟨⟨c0, c1, c2, c3, c4, c5⟩, f0, f1, f2, f3, f4, f5⟩ := al_cells hR6)
  have HS := al_store hR6 (.int .i64 z.k) (.string z.a) (.string z.b) (.string z.l) (.string z.s) (.string z.r)
  refine bodyPost_ret (results_cell_row rfl _ _ (w.heap.size + 1) 28 _ (0, 0) _ rfl HS.1 Tryd.underlying28 rfl sizeAl) rfl ?_
  exact ⟨by rw [HZ.out], (HBel.out.trans (hb6.mono HBel.out.size)).trans (HS.2 _ (by omega))⟩

set_option maxRecDepth 100000 in
set_option maxHeartbeats 8000000 in
theorem made_4 (S : Sd) (w : World) (hk : pickY 7 S.kind = 4) :
    Calls Tryd.prog 6 #[.agg #[.int .i64 S.kind, .int .i64 S.a, .int .i64 S.b, .int .i64 S.l, .int .i64 S.s, .int .i64 S.r, .int .i64 S.odd]] w fun e w' => e = .returned (.agg #[.int .i64 (spoiltA (baseA S 4) (pickY 9 S.odd)).k, .string (spoiltA (baseA S 4) (pickY 9 S.odd)).a, .string (spoiltA (baseA S 4) (pickY 9 S.odd)).b, .string (spoiltA (baseA S 4) (pickY 9 S.odd)).l, .string (spoiltA (baseA S 4) (pickY 9 S.odd)).s, .string (spoiltA (baseA S 4) (pickY 9 S.odd)).r]) ∧ Below w.heap.size w w' := by
  obtain ⟨b1, b2, b3, -⟩ : -(7 : Int) < Int.tmod S.kind 7 ∧ Int.tmod S.kind 7 < 7 ∧ Int.tmod (Int.tmod S.kind 7 + 7) 7 = ((pickY 7 S.kind : Nat) : Int) ∧ pickY 7 S.kind < 7 := pickY_facts 7 S.kind (by decide)
  rw [hk] at b3
  obtain ⟨o1, o2, o3, o4⟩ : -(9 : Int) < Int.tmod S.odd 9 ∧ Int.tmod S.odd 9 < 9 ∧ Int.tmod (Int.tmod S.odd 9 + 9) 9 = ((pickY 9 S.odd : Nat) : Int) ∧ pickY 9 S.odd < 9 := pickY_facts 9 S.odd (by decide)
  have HSP := Lib.hid (fun (x : Al) w' (za : x.a.size ≤ 1000) (zb : x.b.size ≤ 1000) => spoilt_any x (pickY 9 S.odd) o4 w' za zb)
  generalize pickY 9 S.odd = od at *
  generalize hr7 : Int.tmod S.kind 7 = r7 at *
  generalize hr9 : Int.tmod S.odd 9 = r9 at *
  obtain ⟨W1, hW1⟩ : ∃ W1, ((w.alloc (.cells #[.int .i64 S.kind, .int .i64 S.a, .int .i64 S.b, .int .i64 S.l, .int .i64 S.s, .int .i64 S.r, .int .i64 S.odd] 23)).alloc (.cells #[.int .i64 0, .string ⟨#[]⟩, .string ⟨#[]⟩, .string ⟨#[]⟩, .string ⟨#[]⟩, .string ⟨#[]⟩] 28)).alloc (.cells #[.int .i64 5, .string ⟨#[]⟩, .string ⟨#[]⟩, .string ⟨#[]⟩, .string ⟨#[]⟩, .string ⟨#[]⟩] 28) = W1 := ⟨_, rfl⟩
  have hI : MdI w S ⟨5, ⟨#[]⟩, ⟨#[]⟩, ⟨#[]⟩, ⟨#[]⟩, ⟨#[]⟩⟩ W1 := by
    rw [← hW1]
    refine ⟨?_, ?_, ?_, (((Below.refl _ w).alloc (Nat.le_refl _) _).alloc (by simp) _).alloc (by simp; omega) _⟩
    · exact (Below.heap_alloc _ _ _ (by simp; omega)).trans ((Below.heap_alloc _ _ _ (by simp)).trans (World.alloc_heap_new w _))
    · exact (Below.heap_alloc _ _ _ (by simp)).trans (heap_alloc2_new w _ _)
    · have := World.alloc_heap_new ((w.alloc (.cells #[.int .i64 S.kind, .int .i64 S.a, .int .i64 S.b, .int .i64 S.l, .int .i64 S.s, .int .i64 S.r, .int .i64 S.odd] 23)).alloc (.cells #[.int .i64 0, .string ⟨#[]⟩, .string ⟨#[]⟩, .string ⟨#[]⟩, .string ⟨#[]⟩, .string ⟨#[]⟩] 28)) (.cells #[.int .i64 5, .string ⟨#[]⟩, .string ⟨#[]⟩, .string ⟨#[]⟩, .string ⟨#[]⟩, .string ⟨#[]⟩] 28)
      simpa using this
  have HW1 := Lib.hid hW1
  clear hW1
  go_enter Tryd.func6, Tryd.ntmps6
  go_upto_region 25 with fail
  rw [HW1.out]
  clear HW1 b1 b2 b3 hr7
  have hd := hI.drew
  have hsc : W1.drew.cell? ⟨w.heap.size, 1, none⟩ = some (.int .i64 S.a) := (seed_cell hd).2.1
  have HL := Lib.hid (fun w' (h : MdI w S ⟨5, ⟨#[]⟩, ⟨#[]⟩, ⟨#[]⟩, ⟨#[]⟩, ⟨#[]⟩⟩ w') => (regions_y w').mono (R' := fun e w'' => ∃ u, e = .returned u ∧ RowP w'' u regionsY ∧ (MdI w S ⟨5, ⟨#[]⟩, ⟨#[]⟩, ⟨#[]⟩, ⟨#[]⟩, ⟨#[]⟩⟩ w'' ∧ w''.cell? ⟨w.heap.size, 1, none⟩ = some (.int .i64 S.a) ∧ w''.cell? ⟨w.heap.size + 1 + 1, 1, none⟩ = some (.string ⟨#[]⟩) ∧ w''.frozen? ⟨w.heap.size + 1 + 1, 1, none⟩ = false)) fun e w'' ⟨u, p, q, r⟩ => by
    have h2 := h.below r
    obtain ⟨ca, fa⟩ := al_cells h2.a
    exact ⟨u, p, q, h2, (seed_cell h2).2.1, ca.2.1, fa.2.1⟩)
  go_region_held3 (fun w' => w'.cell? ⟨w.heap.size, 1, none⟩ = some (.int .i64 S.a)) (first | assumption | exact (World.cell?_setCell_other _ _ _ _ (by simp)).trans (by assumption))
    (first
    | (go_at_call 18; (with_reducible refine (HL.out _ hd).mono ?_); rintro e w5 ⟨u, rfl, hrow, hI5, c5, a5, f5⟩)
    | (go_at_call 13; (with_reducible refine (pickY_ref _ regionsY _ _ hrow (by decide) (by decide)).mono ?_); rintro e w6 ⟨rfl, rfl⟩))
  have hI2 : MdI w S ⟨5, pickS regionsY S.a, ⟨#[]⟩, ⟨#[]⟩, ⟨#[]⟩, ⟨#[]⟩⟩ _ := hI5.set 1 (.string (pickS regionsY S.a)) rfl
  generalize hWW : w5.setCell ⟨w.heap.size + 1 + 1, 1, none⟩ (.string (pickS regionsY S.a)) = W2 at *
  clear hWW hd hsc HL hrow hI5 c5 a5 f5 hI
  go_upto_region 26 with fail
  have hd := hI2.drew
  have hsc : W2.drew.cell? ⟨w.heap.size, 5, none⟩ = some (.int .i64 S.r) := (seed_cell hd).2.2.2.2.2.1
  have HL := Lib.hid (fun w' (h : MdI w S ⟨5, pickS regionsY S.a, ⟨#[]⟩, ⟨#[]⟩, ⟨#[]⟩, ⟨#[]⟩⟩ w') => (toRegions_y w').mono (R' := fun e w'' => ∃ u, e = .returned u ∧ RowP w'' u toRegionsY ∧ (MdI w S ⟨5, pickS regionsY S.a, ⟨#[]⟩, ⟨#[]⟩, ⟨#[]⟩, ⟨#[]⟩⟩ w'' ∧ w''.cell? ⟨w.heap.size, 5, none⟩ = some (.int .i64 S.r) ∧ w''.cell? ⟨w.heap.size + 1 + 1, 5, none⟩ = some (.string ⟨#[]⟩) ∧ w''.frozen? ⟨w.heap.size + 1 + 1, 5, none⟩ = false)) fun e w'' ⟨u, p, q, r⟩ => by
    have h2 := h.below r
    obtain ⟨ca, fa⟩ := al_cells h2.a
    exact ⟨u, p, q, h2, (seed_cell h2).2.2.2.2.2.1, ca.2.2.2.2.2, fa.2.2.2.2.2⟩)
  go_region_held3 (fun w' => w'.cell? ⟨w.heap.size, 5, none⟩ = some (.int .i64 S.r)) (first | assumption | exact (World.cell?_setCell_other _ _ _ _ (by simp)).trans (by assumption))
    (first
    | (go_at_call 19; (with_reducible refine (HL.out _ hd).mono ?_); rintro e w5 ⟨u, rfl, hrow, hI5, c5, a5, f5⟩)
    | (go_at_call 13; (with_reducible refine (pickY_ref _ toRegionsY _ _ hrow (by decide) (by decide)).mono ?_); rintro e w6 ⟨rfl, rfl⟩))
  have hI3 : MdI w S ⟨5, pickS regionsY S.a, ⟨#[]⟩, ⟨#[]⟩, ⟨#[]⟩, pickS toRegionsY S.r⟩ _ := hI5.set 5 (.string (pickS toRegionsY S.r)) rfl
  generalize hWW : w5.setCell ⟨w.heap.size + 1 + 1, 5, none⟩ (.string (pickS toRegionsY S.r)) = W3 at *
  clear hWW hd hsc HL hrow hI5 c5 a5 f5 hI2
  go_upto_region 30 with fail
  obtain ⟨s0, s1, s2, s3, s4, s5, s6⟩ := seed_cell hI3
  obtain ⟨⟨ca0, ca1, ca2, ca3, ca4, ca5⟩, -⟩ := al_cells hI3.a
  have hR := hI3.r
  have hlt := hI3.lt
  have HBel := Lib.hid hI3.bel
  have HB := Lib.hid (show baseA S 4 = ⟨5, pickS regionsY S.a, ⟨#[]⟩, ⟨#[]⟩, ⟨#[]⟩, pickS toRegionsY S.r⟩ from rfl)
  have HSx := Lib.hid (HSP.out ⟨5, pickS regionsY S.a, ⟨#[]⟩, ⟨#[]⟩, ⟨#[]⟩, pickS toRegionsY S.r⟩ W3 (pickS_size (by decide) (by decide)) (show (0 : Nat) ≤ 1000 by decide))
  obtain ⟨z, hz⟩ : ∃ z, spoiltA ⟨5, pickS regionsY S.a, ⟨#[]⟩, ⟨#[]⟩, ⟨#[]⟩, pickS toRegionsY S.r⟩ od = z := ⟨_, rfl⟩
  rw [hz] at HSx
  have HZ := Lib.hid (show spoiltA (baseA S 4) od = z by rw [HB.out, hz])
  clear hz HB
  have hRR := Lib.hid (fun w' (hb : Below W3.heap.size W3 w') => (hb.block _ (by omega)).trans hR)
  clear HSP hI3 hR hk
  go_wp2_with (go_at_call 20; (with_reducible refine HSx.out.mono ?_); rintro e w6 ⟨rfl, hb6⟩; have hR6 := hRR.out _ hb6; obtain ⟨⟨c0, c1, c2, c3, c4, c5⟩, f0, f1, f2, f3, f4, f5⟩ := al_cells hR6)
  have HS := al_store hR6 (.int .i64 z.k) (.string z.a) (.string z.b) (.string z.l) (.string z.s) (.string z.r)
  refine bodyPost_ret (results_cell_row rfl _ _ (w.heap.size + 1) 28 _ (0, 0) _ rfl HS.1 Tryd.underlying28 rfl sizeAl) rfl ?_
  exact ⟨by rw [HZ.out], (HBel.out.trans (hb6.mono HBel.out.size)).trans (HS.2 _ (by omega))⟩

set_option maxRecDepth 100000 in
set_option maxHeartbeats 8000000 in
theorem made_5 (S : Sd) (w : World) (hk : pickY 7 S.kind = 5) :
    Calls Tryd.prog 6 #[.agg #[.int .i64 S.kind, .int .i64 S.a, .int .i64 S.b, .int .i64 S.l, .int .i64 S.s, .int .i64 S.r, .int .i64 S.odd]] w fun e w' => e = .returned (.agg #[.int .i64 (spoiltA (baseA S 5) (pickY 9 S.odd)).k, .string (spoiltA (baseA S 5) (pickY 9 S.odd)).a, .string (spoiltA (baseA S 5) (pickY 9 S.odd)).b, .string (spoiltA (baseA S 5) (pickY 9 S.odd)).l, .string (spoiltA (baseA S 5) (pickY 9 S.odd)).s, .string (spoiltA (baseA S 5) (pickY 9 S.odd)).r]) ∧ Below w.heap.size w w' := by
  obtain ⟨b1, b2, b3, -⟩ : -(7 : Int) < Int.tmod S.kind 7 ∧ Int.tmod S.kind 7 < 7 ∧ Int.tmod (Int.tmod S.kind 7 + 7) 7 = ((pickY 7 S.kind : Nat) : Int) ∧ pickY 7 S.kind < 7 := pickY_facts 7 S.kind (by decide)
  rw [hk] at b3
  obtain ⟨o1, o2, o3, o4⟩ : -(9 : Int) < Int.tmod S.odd 9 ∧ Int.tmod S.odd 9 < 9 ∧ Int.tmod (Int.tmod S.odd 9 + 9) 9 = ((pickY 9 S.odd : Nat) : Int) ∧ pickY 9 S.odd < 9 := pickY_facts 9 S.odd (by decide)
  have HSP := Lib.hid (fun (x : Al) w' (za : x.a.size ≤ 1000) (zb : x.b.size ≤ 1000) => spoilt_any x (pickY 9 S.odd) o4 w' za zb)
  generalize pickY 9 S.odd = od at *
  generalize hr7 : Int.tmod S.kind 7 = r7 at *
  generalize hr9 : Int.tmod S.odd 9 = r9 at *
  obtain ⟨W1, hW1⟩ : ∃ W1, ((w.alloc (.cells #[.int .i64 S.kind, .int .i64 S.a, .int .i64 S.b, .int .i64 S.l, .int .i64 S.s, .int .i64 S.r, .int .i64 S.odd] 23)).alloc (.cells #[.int .i64 0, .string ⟨#[]⟩, .string ⟨#[]⟩, .string ⟨#[]⟩, .string ⟨#[]⟩, .string ⟨#[]⟩] 28)).alloc (.cells #[.int .i64 6, .string ⟨#[]⟩, .string ⟨#[]⟩, .string ⟨#[]⟩, .string ⟨#[]⟩, .string ⟨#[]⟩] 28) = W1 := ⟨_, rfl⟩
  have hI : MdI w S ⟨6, ⟨#[]⟩, ⟨#[]⟩, ⟨#[]⟩, ⟨#[]⟩, ⟨#[]⟩⟩ W1 := by
    rw [← hW1]
    refine ⟨?_, ?_, ?_, (((Below.refl _ w).alloc (Nat.le_refl _) _).alloc (by simp) _).alloc (by simp; omega) _⟩
    · exact (Below.heap_alloc _ _ _ (by simp; omega)).trans ((Below.heap_alloc _ _ _ (by simp)).trans (World.alloc_heap_new w _))
    · exact (Below.heap_alloc _ _ _ (by simp)).trans (heap_alloc2_new w _ _)
    · have := World.alloc_heap_new ((w.alloc (.cells #[.int .i64 S.kind, .int .i64 S.a, .int .i64 S.b, .int .i64 S.l, .int .i64 S.s, .int .i64 S.r, .int .i64 S.odd] 23)).alloc (.cells #[.int .i64 0, .string ⟨#[]⟩, .string ⟨#[]⟩, .string ⟨#[]⟩, .string ⟨#[]⟩, .string ⟨#[]⟩] 28)) (.cells #[.int .i64 6, .string ⟨#[]⟩, .string ⟨#[]⟩, .string ⟨#[]⟩, .string ⟨#[]⟩, .string ⟨#[]⟩] 28)
      simpa using this
  have HW1 := Lib.hid hW1
  clear hW1
  go_enter Tryd.func6, Tryd.ntmps6
  go_upto_region 28 with fail
  rw [HW1.out]
  clear HW1 b1 b2 b3 hr7
  have hs := hI.alloc (.cells #[.string ⟨#[104, 101, 112, 108, 111, 99]⟩, .string ⟨#[97, 114, 101, 118, 101, 108, 97]⟩, .string ⟨#[49, 97, 50, 98]⟩] 9)
  have hrow : RowP (W1.alloc (.cells #[.string ⟨#[104, 101, 112, 108, 111, 99]⟩, .string ⟨#[97, 114, 101, 118, 101, 108, 97]⟩, .string ⟨#[49, 97, 50, 98]⟩] 9)) (.slice (some ⟨W1.heap.size, 0, none⟩) 3 3) varY := RowP.of_block varY _ _ rfl (World.alloc_heap_new W1 _)
  obtain ⟨s0, s1, s2, s3, s4, s5, s6⟩ := seed_cell hs
  obtain ⟨⟨ca0, ca1, ca2, ca3, ca4, ca5⟩, fa0, fa1, fa2, fa3, fa4, fa5⟩ := al_cells hs.a
  go_upto_region 29 with (go_at_call 13; (with_reducible refine (pickY_ref _ varY _ _ hrow (by decide) (by decide)).mono ?_); rintro e w6 ⟨rfl, rfl⟩)
  have hI2 : MdI w S ⟨6, pickS varY S.a, ⟨#[]⟩, ⟨#[]⟩, ⟨#[]⟩, ⟨#[]⟩⟩ _ := hs.set 1 (.string (pickS varY S.a)) rfl
  generalize hWW : (W1.alloc (.cells #[.string ⟨#[104, 101, 112, 108, 111, 99]⟩, .string ⟨#[97, 114, 101, 118, 101, 108, 97]⟩, .string ⟨#[49, 97, 50, 98]⟩] 9)).setCell ⟨w.heap.size + 1 + 1, 1, none⟩ (.string (pickS varY S.a)) = W2 at *
  clear hWW hs hrow s0 s1 s2 s3 s4 s5 s6 ca0 ca1 ca2 ca3 ca4 ca5 fa0 fa1 fa2 fa3 fa4 fa5 hI
  have hs := hI2.alloc (.cells #[.string ⟨#[]⟩, .string ⟨#[97, 108, 97, 108, 99, 57, 55]⟩, .string ⟨#[49, 57, 57, 52]⟩] 9)
  have hrow : RowP (W2.alloc (.cells #[.string ⟨#[]⟩, .string ⟨#[97, 108, 97, 108, 99, 57, 55]⟩, .string ⟨#[49, 57, 57, 52]⟩] 9)) (.slice (some ⟨W2.heap.size, 0, none⟩) 3 3) toVarY := RowP.of_block toVarY _ _ rfl (World.alloc_heap_new W2 _)
  obtain ⟨s0, s1, s2, s3, s4, s5, s6⟩ := seed_cell hs
  obtain ⟨⟨ca0, ca1, ca2, ca3, ca4, ca5⟩, fa0, fa1, fa2, fa3, fa4, fa5⟩ := al_cells hs.a
  go_upto_region 30 with (go_at_call 13; (with_reducible refine (pickY_ref _ toVarY _ _ hrow (by decide) (by decide)).mono ?_); rintro e w6 ⟨rfl, rfl⟩)
  have hI3 : MdI w S ⟨6, pickS varY S.a, ⟨#[]⟩, pickS toVarY S.l, ⟨#[]⟩, ⟨#[]⟩⟩ _ := hs.set 3 (.string (pickS toVarY S.l)) rfl
  generalize hWW : (W2.alloc (.cells #[.string ⟨#[]⟩, .string ⟨#[97, 108, 97, 108, 99, 57, 55]⟩, .string ⟨#[49, 57, 57, 52]⟩] 9)).setCell ⟨w.heap.size + 1 + 1, 3, none⟩ (.string (pickS toVarY S.l)) = W3 at *
  clear hWW hs hrow s0 s1 s2 s3 s4 s5 s6 ca0 ca1 ca2 ca3 ca4 ca5 fa0 fa1 fa2 fa3 fa4 fa5 hI2
  obtain ⟨s0, s1, s2, s3, s4, s5, s6⟩ := seed_cell hI3
  obtain ⟨⟨ca0, ca1, ca2, ca3, ca4, ca5⟩, -⟩ := al_cells hI3.a
  have hR := hI3.r
  have hlt := hI3.lt
  have HBel := Lib.hid hI3.bel
  have HB := Lib.hid (show baseA S 5 = ⟨6, pickS varY S.a, ⟨#[]⟩, pickS toVarY S.l, ⟨#[]⟩, ⟨#[]⟩⟩ from rfl)
  have HSx := Lib.hid (HSP.out ⟨6, pickS varY S.a, ⟨#[]⟩, pickS toVarY S.l, ⟨#[]⟩, ⟨#[]⟩⟩ W3 (pickS_size (by decide) (by decide)) (show (0 : Nat) ≤ 1000 by decide))
  obtain ⟨z, hz⟩ : ∃ z, spoiltA ⟨6, pickS varY S.a, ⟨#[]⟩, pickS toVarY S.l, ⟨#[]⟩, ⟨#[]⟩⟩ od = z := ⟨_, rfl⟩
  rw [hz] at HSx
  have HZ := Lib.hid (show spoiltA (baseA S 5) od = z by rw [HB.out, hz])
  clear hz HB
  have hRR := Lib.hid (fun w' (hb : Below W3.heap.size W3 w') => (hb.block _ (by omega)).trans hR)
  clear HSP hI3 hR hk
  go_wp2_with (go_at_call 20; (with_reducible refine HSx.out.mono ?_); rintro e w6 ⟨rfl, hb6⟩; have hR6 := hRR.out _ hb6; obtain ⟨⟨c0, c1, c2, c3, c4, c5⟩, f0, f1, f2, f3, f4, f5⟩ := al_cells hR6)
  have HS := al_store hR6 (.int .i64 z.k) (.string z.a) (.string z.b) (.string z.l) (.string z.s) (.string z.r)
  refine bodyPost_ret (results_cell_row rfl _ _ (w.heap.size + 1) 28 _ (0, 0) _ rfl HS.1 Tryd.underlying28 rfl sizeAl) rfl ?_
  exact ⟨by rw [HZ.out], (HBel.out.trans (hb6.mono HBel.out.size)).trans (HS.2 _ (by omega))⟩

set_option maxRecDepth 100000 in
set_option maxHeartbeats 8000000 in
theorem made_6 (S : Sd) (w : World) (hk : pickY 7 S.kind = 6) :
    Calls Tryd.prog 6 #[.agg #[.int .i64 S.kind, .int .i64 S.a, .int .i64 S.b, .int .i64 S.l, .int .i64 S.s, .int .i64 S.r, .int .i64 S.odd]] w fun e w' => e = .returned (.agg #[.int .i64 (spoiltA (baseA S 6) (pickY 9 S.odd)).k, .string (spoiltA (baseA S 6) (pickY 9 S.odd)).a, .string (spoiltA (baseA S 6) (pickY 9 S.odd)).b, .string (spoiltA (baseA S 6) (pickY 9 S.odd)).l, .string (spoiltA (baseA S 6) (pickY 9 S.odd)).s, .string (spoiltA (baseA S 6) (pickY 9 S.odd)).r]) ∧ Below w.heap.size w w' := by
  obtain ⟨b1, b2, b3, -⟩ : -(7 : Int) < Int.tmod S.kind 7 ∧ Int.tmod S.kind 7 < 7 ∧ Int.tmod (Int.tmod S.kind 7 + 7) 7 = ((pickY 7 S.kind : Nat) : Int) ∧ pickY 7 S.kind < 7 := pickY_facts 7 S.kind (by decide)
  rw [hk] at b3
  obtain ⟨o1, o2, o3, o4⟩ : -(9 : Int) < Int.tmod S.odd 9 ∧ Int.tmod S.odd 9 < 9 ∧ Int.tmod (Int.tmod S.odd 9 + 9) 9 = ((pickY 9 S.odd : Nat) : Int) ∧ pickY 9 S.odd < 9 := pickY_facts 9 S.odd (by decide)
  have HSP := Lib.hid (fun (x : Al) w' (za : x.a.size ≤ 1000) (zb : x.b.size ≤ 1000) => spoilt_any x (pickY 9 S.odd) o4 w' za zb)
  generalize pickY 9 S.odd = od at *
  generalize hr7 : Int.tmod S.kind 7 = r7 at *
  generalize hr9 : Int.tmod S.odd 9 = r9 at *
  obtain ⟨W1, hW1⟩ : ∃ W1, ((w.alloc (.cells #[.int .i64 S.kind, .int .i64 S.a, .int .i64 S.b, .int .i64 S.l, .int .i64 S.s, .int .i64 S.r, .int .i64 S.odd] 23)).alloc (.cells #[.int .i64 0, .string ⟨#[]⟩, .string ⟨#[]⟩, .string ⟨#[]⟩, .string ⟨#[]⟩, .string ⟨#[]⟩] 28)).alloc (.cells #[.int .i64 7, .string ⟨#[]⟩, .string ⟨#[]⟩, .string ⟨#[]⟩, .string ⟨#[]⟩, .string ⟨#[]⟩] 28) = W1 := ⟨_, rfl⟩
  have hI : MdI w S ⟨7, ⟨#[]⟩, ⟨#[]⟩, ⟨#[]⟩, ⟨#[]⟩, ⟨#[]⟩⟩ W1 := by
    rw [← hW1]
    refine ⟨?_, ?_, ?_, (((Below.refl _ w).alloc (Nat.le_refl _) _).alloc (by simp) _).alloc (by simp; omega) _⟩
    · exact (Below.heap_alloc _ _ _ (by simp; omega)).trans ((Below.heap_alloc _ _ _ (by simp)).trans (World.alloc_heap_new w _))
    · exact (Below.heap_alloc _ _ _ (by simp)).trans (heap_alloc2_new w _ _)
    · have := World.alloc_heap_new ((w.alloc (.cells #[.int .i64 S.kind, .int .i64 S.a, .int .i64 S.b, .int .i64 S.l, .int .i64 S.s, .int .i64 S.r, .int .i64 S.odd] 23)).alloc (.cells #[.int .i64 0, .string ⟨#[]⟩, .string ⟨#[]⟩, .string ⟨#[]⟩, .string ⟨#[]⟩, .string ⟨#[]⟩] 28)) (.cells #[.int .i64 7, .string ⟨#[]⟩, .string ⟨#[]⟩, .string ⟨#[]⟩, .string ⟨#[]⟩, .string ⟨#[]⟩] 28)
      simpa using this
  have HW1 := Lib.hid hW1
  clear hW1
  go_enter Tryd.func6, Tryd.ntmps6
  go_upto_region 3 with fail
  rw [HW1.out]
  clear HW1 b1 b2 b3 hr7
  have hs := hI.alloc (.cells #[.string ⟨#[99, 97]⟩, .string ⟨#[99, 111]⟩] 9)
  have hrow : RowP (W1.alloc (.cells #[.string ⟨#[99, 97]⟩, .string ⟨#[99, 111]⟩] 9)) (.slice (some ⟨W1.heap.size, 0, none⟩) 2 2) keysY := RowP.of_block keysY _ _ rfl (World.alloc_heap_new W1 _)
  obtain ⟨s0, s1, s2, s3, s4, s5, s6⟩ := seed_cell hs
  obtain ⟨⟨ca0, ca1, ca2, ca3, ca4, ca5⟩, fa0, fa1, fa2, fa3, fa4, fa5⟩ := al_cells hs.a
  go_upto_region 4 with (go_at_call 13; (with_reducible refine (pickY_ref _ keysY _ _ hrow (by decide) (by decide)).mono ?_); rintro e w6 ⟨rfl, rfl⟩)
  have hI2 : MdI w S ⟨7, pickS keysY S.a, ⟨#[]⟩, ⟨#[]⟩, ⟨#[]⟩, ⟨#[]⟩⟩ _ := hs.set 1 (.string (pickS keysY S.a)) rfl
  generalize hWW : (W1.alloc (.cells #[.string ⟨#[99, 97]⟩, .string ⟨#[99, 111]⟩] 9)).setCell ⟨w.heap.size + 1 + 1, 1, none⟩ (.string (pickS keysY S.a)) = W2 at *
  clear hWW hs hrow s0 s1 s2 s3 s4 s5 s6 ca0 ca1 ca2 ca3 ca4 ca5 fa0 fa1 fa2 fa3 fa4 fa5 hI
  have hs := hI2.alloc (.cells #[.string ⟨#[105, 115, 108, 97, 109, 105, 99, 99]⟩, .string ⟨#[97, 98, 49]⟩, .string ⟨#[112, 104, 111, 110, 101, 98, 107]⟩] 9)
  have hrow : RowP (W2.alloc (.cells #[.string ⟨#[105, 115, 108, 97, 109, 105, 99, 99]⟩, .string ⟨#[97, 98, 49]⟩, .string ⟨#[112, 104, 111, 110, 101, 98, 107]⟩] 9)) (.slice (some ⟨W2.heap.size, 0, none⟩) 3 3) typesY := RowP.of_block typesY _ _ rfl (World.alloc_heap_new W2 _)
  obtain ⟨s0, s1, s2, s3, s4, s5, s6⟩ := seed_cell hs
  obtain ⟨⟨ca0, ca1, ca2, ca3, ca4, ca5⟩, fa0, fa1, fa2, fa3, fa4, fa5⟩ := al_cells hs.a
  go_upto_region 5 with (go_at_call 13; (with_reducible refine (pickY_ref _ typesY _ _ hrow (by decide) (by decide)).mono ?_); rintro e w6 ⟨rfl, rfl⟩)
  have hI3 : MdI w S ⟨7, pickS keysY S.a, pickS typesY S.b, ⟨#[]⟩, ⟨#[]⟩, ⟨#[]⟩⟩ _ := hs.set 2 (.string (pickS typesY S.b)) rfl
  generalize hWW : (W2.alloc (.cells #[.string ⟨#[105, 115, 108, 97, 109, 105, 99, 99]⟩, .string ⟨#[97, 98, 49]⟩, .string ⟨#[112, 104, 111, 110, 101, 98, 107]⟩] 9)).setCell ⟨w.heap.size + 1 + 1, 2, none⟩ (.string (pickS typesY S.b)) = W3 at *
  clear hWW hs hrow s0 s1 s2 s3 s4 s5 s6 ca0 ca1 ca2 ca3 ca4 ca5 fa0 fa1 fa2 fa3 fa4 fa5 hI2
  have hs := hI3.alloc (.cells #[.string ⟨#[99, 105, 118, 105, 108]⟩, .string ⟨#[116, 114, 117, 101]⟩, .string ⟨#[115, 116, 97, 110, 100, 97, 114, 100]⟩] 9)
  have hrow : RowP (W3.alloc (.cells #[.string ⟨#[99, 105, 118, 105, 108]⟩, .string ⟨#[116, 114, 117, 101]⟩, .string ⟨#[115, 116, 97, 110, 100, 97, 114, 100]⟩] 9)) (.slice (some ⟨W3.heap.size, 0, none⟩) 3 3) toTypesY := RowP.of_block toTypesY _ _ rfl (World.alloc_heap_new W3 _)
  obtain ⟨s0, s1, s2, s3, s4, s5, s6⟩ := seed_cell hs
  obtain ⟨⟨ca0, ca1, ca2, ca3, ca4, ca5⟩, fa0, fa1, fa2, fa3, fa4, fa5⟩ := al_cells hs.a
  go_upto_region 30 with (go_at_call 13; (with_reducible refine (pickY_ref _ toTypesY _ _ hrow (by decide) (by decide)).mono ?_); rintro e w6 ⟨rfl, rfl⟩)
  have hI4 : MdI w S ⟨7, pickS keysY S.a, pickS typesY S.b, pickS toTypesY S.l, ⟨#[]⟩, ⟨#[]⟩⟩ _ := hs.set 3 (.string (pickS toTypesY S.l)) rfl
  generalize hWW : (W3.alloc (.cells #[.string ⟨#[99, 105, 118, 105, 108]⟩, .string ⟨#[116, 114, 117, 101]⟩, .string ⟨#[115, 116, 97, 110, 100, 97, 114, 100]⟩] 9)).setCell ⟨w.heap.size + 1 + 1, 3, none⟩ (.string (pickS toTypesY S.l)) = W4 at *
  clear hWW hs hrow s0 s1 s2 s3 s4 s5 s6 ca0 ca1 ca2 ca3 ca4 ca5 fa0 fa1 fa2 fa3 fa4 fa5 hI3
  obtain ⟨s0, s1, s2, s3, s4, s5, s6⟩ := seed_cell hI4
  obtain ⟨⟨ca0, ca1, ca2, ca3, ca4, ca5⟩, -⟩ := al_cells hI4.a
  have hR := hI4.r
  have hlt := hI4.lt
  have HBel := Lib.hid hI4.bel
  have HB := Lib.hid (show baseA S 6 = ⟨7, pickS keysY S.a, pickS typesY S.b, pickS toTypesY S.l, ⟨#[]⟩, ⟨#[]⟩⟩ from rfl)
  have HSx := Lib.hid (HSP.out ⟨7, pickS keysY S.a, pickS typesY S.b, pickS toTypesY S.l, ⟨#[]⟩, ⟨#[]⟩⟩ W4 (pickS_size (by decide) (by decide)) (pickS_size (by decide) (by decide)))
  obtain ⟨z, hz⟩ : ∃ z, spoiltA ⟨7, pickS keysY S.a, pickS typesY S.b, pickS toTypesY S.l, ⟨#[]⟩, ⟨#[]⟩⟩ od = z := ⟨_, rfl⟩
  rw [hz] at HSx
  have HZ := Lib.hid (show spoiltA (baseA S 6) od = z by rw [HB.out, hz])
  clear hz HB
  have hRR := Lib.hid (fun w' (hb : Below W4.heap.size W4 w') => (hb.block _ (by omega)).trans hR)
  clear HSP hI4 hR hk
  go_wp2_with (go_at_call 20; (with_reducible refine HSx.out.mono ?_); rintro e w6 ⟨rfl, hb6⟩; have hR6 := hRR.out _ hb6; obtain ⟨⟨c0, c1, c2, c3, c4, c5⟩, f0, f1, f2, f3, f4, f5⟩ := al_cells hR6)
  have HS := al_store hR6 (.int .i64 z.k) (.string z.a) (.string z.b) (.string z.l) (.string z.s) (.string z.r)
  refine bodyPost_ret (results_cell_row rfl _ _ (w.heap.size + 1) 28 _ (0, 0) _ rfl HS.1 Tryd.underlying28 rfl sizeAl) rfl ?_
  exact ⟨by rw [HZ.out], (HBel.out.trans (hb6.mono HBel.out.size)).trans (HS.2 _ (by omega))⟩
theorem made_any (S : Sd) (w : World) :
    Calls Tryd.prog 6 #[.agg #[.int .i64 S.kind, .int .i64 S.a, .int .i64 S.b, .int .i64 S.l, .int .i64 S.s, .int .i64 S.r, .int .i64 S.odd]] w fun e w' => e = .returned (.agg #[.int .i64 (madeA S).k, .string (madeA S).a, .string (madeA S).b, .string (madeA S).l, .string (madeA S).s, .string (madeA S).r]) ∧ Below w.heap.size w w' := by
  have h := (pickY_facts 7 S.kind (by decide)).2.2.2
  have h7 : pickY 7 S.kind = 0 ∨ pickY 7 S.kind = 1 ∨ pickY 7 S.kind = 2 ∨ pickY 7 S.kind = 3 ∨ pickY 7 S.kind = 4 ∨ pickY 7 S.kind = 5 ∨ pickY 7 S.kind = 6 := by omega
  rcases h7 with e | e | e | e | e | e | e
  · have := made_0 S w e; unfold madeA; rw [e]; exact this
  · have := made_1 S w e; unfold madeA; rw [e]; exact this
  · have := made_2 S w e; unfold madeA; rw [e]; exact this
  · have := made_3 S w e; unfold madeA; rw [e]; exact this
  · have := made_4 S w e; unfold madeA; rw [e]; exact this
  · have := made_5 S w e; unfold madeA; rw [e]; exact this
  · have := made_6 S w e; unfold madeA; rw [e]; exact this
end Go.Proofs.YtlpjdknmnomdlaaDoor
