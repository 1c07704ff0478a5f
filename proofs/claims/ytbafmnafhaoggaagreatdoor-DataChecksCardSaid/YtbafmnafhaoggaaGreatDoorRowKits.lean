/-
  What the rows of these statements need beside the walks: the listed variable, a row of items that came in. What the rows of layer 5 share: the laid array, read off the condition. What the rows of the image statements share: both listed variables.
-/
import Derived.Test.YtbafmnafhaoggaaGreatDoorRows
import Derived.Test.YtbafmnafhaoggaaGreatDoorFault
import Derived.Test.YtbafmnafhaoggaaGreatDoorErr
import Derived.ProofKit
import Derived.Deep.Slices
import Derived.Deep.Fields
import Derived.ChangeSame
import Derived.ChangeVars
import Derived.JoinedOf
import Derived.RowKit
import Derived.RowKitTokens
import Derived.LaidLaws
import Derived.LaidHandle
import Derived.Stop.Joined
import Derived.Test.YtbafmnafhaoggaaGreatDoorETags
import Derived.Lib.LaidTab
import Derived.OpenShut
import Derived.LaidMore
import Derived.Lay
/-! What the rows of these statements need beside the walks: the listed variable, a row of items that came in. -/
namespace Go.Proofs.YtbafmnafhaoggaaGreatDoor
open Go.ChangeShapes Go.WideShapes Go.ChangeAt Go.RowKit Go.Deep

theorem own : ownKnob Tryz.prog.godebug = none := by kernel_rfl
theorem laidOut : laidOutB Tryz.prog = true := by kernel_rfl
section
variable {H : Type} {enc : TypeId × Value → H} {P : Program} {w : World} {base : Nat} {spare : Nat → Bool} {held : Bool}
end

section
variable {H : Type} {enc : TypeId × Value → H} {w : World} {base : Nat} {spare : Nat → Bool} {held : Bool}
end
end Go.Proofs.YtbafmnafhaoggaaGreatDoor

/-! What the rows of layer 5 share: the laid array, read off the condition. -/
namespace Go.Proofs.YtbafmnafhaoggaaGreatDoor
open Go.ChangeShapes Go.WideShapes Go.RowKit

/-- The array as the row lists it. -/
def gData {H : Type} : List (DataW H) := gL.map fun x => .agg [.lit (.string x.1.data.toList), .lit (.bool x.2)]
theorem gData_at {H : Type} (k : Nat) (hk : k < 26) : (gData : List (DataW H))[k]? = some (.agg [.lit (.string (nameG k).data.toList), .lit (.bool (regG k))]) := by
  have hl : gL.length = 26 := rfl
  unfold gData nameG regG
  rw [List.getElem?_map, List.getElem?_eq_getElem (by omega), List.getD_eq_getElem?_getD, List.getElem?_eq_getElem (by omega)]
  rfl

theorem old_cells {H : Type} {enc : TypeId × Value → H} {w : World} {base : Nat} {sp : Nat → Bool} {held : Bool} {fuel : Nat} {cs : List Value} {x : DataW H × List MemPlace} {l : List UInt8} {r : Bool}
    (h : DataW.trod enc Tryz.prog w base sp held fuel 235 cs = some x) (hx : x.1 = .agg [.lit (.string l), .lit (.bool r)]) : cs = [.string ⟨l.toArray⟩, .bool r] := by
  obtain ⟨f0, f1, hu, e0, e1, e2, e3⟩ : ∃ f0 f1 : Field, Tryz.prog.underlying 235 = some (.struct #[f0, f1]) ∧ f0.type = 9 ∧ f0.offset = 0 ∧ f1.type = 4 ∧ f1.offset = 1 := ⟨_, _, Tryz.underlying235, rfl, rfl, rfl, rfl⟩
  obtain ⟨y0, y1, n, hxe, hl, h0, h1⟩ := trod_struct2 hu h
  have hc : Tryz.prog.cellsOf 235 = 2 := by kernel_rfl
  have hc0 : Tryz.prog.cellsOf 9 = 1 := by kernel_rfl
  have hc1 : Tryz.prog.cellsOf 4 = 1 := by kernel_rfl
  rw [e0, e1, hc0] at h0
  rw [e2, e3, hc1] at h1
  rw [hc] at hl
  obtain ⟨s, k0, k1, _⟩ := DataW.trod_string Tryz.underlying9 h0
  obtain ⟨b, k2, k3⟩ := DataW.trod_bool Tryz.underlying4 h1
  match cs, hl with
  | [c0, c1], _ =>
    simp at k0 k2
    subst k0 k2
    rw [hxe, k1, k3] at hx
    simp at hx
    obtain ⟨rfl, rfl⟩ := hx
    simp

theorem tags_cells {H : Type} {enc : TypeId × Value → H} {w : World} {base : Nat} {sp : Nat → Bool} {held : Bool} {fuel : Nat} {cs : List Value} {p : List MemPlace}
    (h : DataW.trod enc Tryz.prog w base sp held fuel 236 cs = some (.agg gData, p)) : cs = gC := by
  have ht : Tryz.prog.underlying 236 = some (.array 26 235) := Tryz.underlying236
  have hce : Tryz.prog.cellsOf 235 = 2 := by kernel_rfl
  have hct : Tryz.prog.cellsOf 236 = 52 := by kernel_rfl
  cases fuel with
  | zero => simp [DataW.trod] at h
  | succ fuel =>
    simp only [DataW.trod, ht, hce, hct] at h
    split at h
    · rename_i hl
      obtain ⟨xs, hm, hx⟩ := Option.map_eq_some_iff.1 h
      have hxs : xs.map (·.1) = (gData : List (DataW H)) := by
        have := congrArg Prod.fst hx
        simpa using this
      have key : ∀ i, i < 26 → (cs.drop (i * 2)).take 2 = [.string (nameG i), .bool (regG i)] := by
        intro i hi
        obtain ⟨b, hb, hf⟩ := Lib.mapM_at hm i i (by simp [hi])
        refine old_cells hf ?_
        have h2 : (xs.map (·.1))[i]? = some b.1 := by simp [hb]
        rw [hxs, gData_at i hi] at h2
        exact (Option.some.inj h2).symm
      apply List.ext_getElem?
      intro j
      rcases Nat.lt_or_ge j 52 with hj | hj
      · have hk := key (j / 2) (by omega)
        rcases Nat.mod_two_eq_zero_or_one j with h0 | h1
        · have hj2 : j = j / 2 * 2 := by omega
          have := congrArg (·[0]?) hk
          simp only [List.getElem?_take, List.getElem?_drop] at this
          rw [hj2, gC_name (j / 2) (by omega)]
          simpa using this
        · have hj2 : j = j / 2 * 2 + 1 := by omega
          have := congrArg (·[1]?) hk
          simp only [List.getElem?_take, List.getElem?_drop] at this
          rw [hj2, gC_reg (j / 2) (by omega)]
          simpa using this
      · rw [List.getElem?_eq_none (by omega), List.getElem?_eq_none (by rw [gC_len]; omega)]
    · cases h

end Go.Proofs.YtbafmnafhaoggaaGreatDoor

/-! What the rows of the image statements share: both listed variables. -/
namespace Go.Proofs.YtbafmnafhaoggaaGreatDoor
open Go.ChangeShapes Go.WideShapes Go.ChangeAt Go.RowKit Go.Deep

end Go.Proofs.YtbafmnafhaoggaaGreatDoor
