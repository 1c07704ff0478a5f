/-
  What the rows of these statements need beside the walks: the listed variable, a row of items that came in. What the rows of layer 5 share: the laid array, read off the condition. What the rows of the image statements share: both listed variables.
-/
import Derived.Test.YtpnhjpplfjamkaaGreatDoorRows
import Derived.Test.YtpnhjpplfjamkaaGreatDoorFault
import Derived.Test.YtpnhjpplfjamkaaGreatDoorErr
import Derived.ProofKit
import Derived.Deep.Slices
import Derived.Deep.Fields
import Derived.ChangeSame
import Derived.ChangeVars
import Derived.JoinedOf
import Derived.RowKit
import Derived.RowKitTokens
import Derived.LaidLaws
import Derived.LaidHandle
import Derived.Stop.Joined
import Derived.Test.YtpnhjpplfjamkaaGreatDoorETags
import Derived.Lib.LaidTab
import Derived.OpenShut
import Derived.LaidMore
import Derived.Lay
/-! What the rows of these statements need beside the walks: the listed variable, a row of items that came in. -/
namespace Go.Proofs.YtpnhjpplfjamkaaGreatDoor
open Go.ChangeShapes Go.WideShapes Go.ChangeAt Go.RowKit Go.Deep

theorem own : ownKnob Tryz.prog.godebug = none := by kernel_rfl
theorem laidEt : Tryz.prog.globalNamed "errors.errorType" = some 1 := by kernel_rfl
theorem laidRt : (Tryz.prog.cutTypes.find? (·.1 == "internal/reflectlite.rtype")).map (·.2) = some 150 := by kernel_rfl
theorem laidOneRow : ((List.range 195).filter fun t => Tryz.prog.rowNamed t [101, 114, 114, 111, 114]) = [41] := by kernel_rfl
theorem laidSize : Tryz.prog.types.size = 195 := by kernel_rfl

/-- What the condition gives a walk: the variable's one cell. -/
theorem typeLaid_of {W : World} (h : laidMetH Tryz.prog [("errors.errorType", Rows.laid_errors_errorType)] W) : TypeLaid W := by
  have h' : laidMet Tryz.prog [] W ∧ handlesMet Tryz.prog [("errors.errorType", Rows.laid_errors_errorType)] W := h
  obtain ⟨name, u, ty, e1, e2, e3, e4, e5⟩ := h'.2 _ (List.mem_singleton.2 rfl)
  have en : name = [101, 114, 114, 111, 114] := (Option.some.inj e1).symm
  subst en
  obtain rfl := Option.some.inj (laidRt.symm.trans e2)
  have hm : ty ∈ (List.range 195).filter fun t => Tryz.prog.rowNamed t [101, 114, 114, 111, 114] := List.mem_filter.2 ⟨List.mem_range.2 (by rw [← laidSize]; exact e3), e4⟩
  rw [laidOneRow] at hm
  obtain rfl := List.mem_singleton.1 hm
  have hh : typeHandle Tryz.prog 41 = .pointer (some ⟨3, 41, none⟩) := by kernel_rfl
  rw [hh] at e5
  show W.cell? ⟨1, 0, none⟩ = _
  simpa using World.var?_cell laidEt e5 0

section
variable {H : Type} {enc : TypeId × Value → H} {P : Program} {w : World} {base : Nat} {spare : Nat → Bool} {held : Bool}
end

section
variable {H : Type} {enc : TypeId × Value → H} {w : World} {base : Nat} {spare : Nat → Bool} {held : Bool}
end
end Go.Proofs.YtpnhjpplfjamkaaGreatDoor

/-! What the rows of layer 5 share: the laid array, read off the condition. -/
namespace Go.Proofs.YtpnhjpplfjamkaaGreatDoor
open Go.ChangeShapes Go.WideShapes Go.RowKit

/-- The array as the row lists it. -/
def gData {H : Type} : List (DataW H) := gL.map fun x => .agg [.lit (.string x.1.data.toList), .lit (.bool x.2)]
theorem gData_at {H : Type} (k : Nat) (hk : k < 26) : (gData : List (DataW H))[k]? = some (.agg [.lit (.string (nameG k).data.toList), .lit (.bool (regG k))]) := by
  have hl : gL.length = 26 := rfl
  unfold gData nameG regG
  rw [List.getElem?_map, List.getElem?_eq_getElem (by omega), List.getD_eq_getElem?_getD, List.getElem?_eq_getElem (by omega)]
  rfl

theorem old_cells {H : Type} {enc : TypeId × Value → H} {w : World} {base : Nat} {sp : Nat → Bool} {held : Bool} {fuel : Nat} {cs : List Value} {x : DataW H × List MemPlace} {l : List UInt8} {r : Bool}
    (h : DataW.trod enc Tryz.prog w base sp held fuel 103 cs = some x) (hx : x.1 = .agg [.lit (.string l), .lit (.bool r)]) : cs = [.string ⟨l.toArray⟩, .bool r] := by
  obtain ⟨f0, f1, hu, e0, e1, e2, e3⟩ : ∃ f0 f1 : Field, Tryz.prog.underlying 103 = some (.struct #[f0, f1]) ∧ f0.type = 9 ∧ f0.offset = 0 ∧ f1.type = 4 ∧ f1.offset = 1 := ⟨_, _, Tryz.underlying103, rfl, rfl, rfl, rfl⟩
  obtain ⟨y0, y1, n, hxe, hl, h0, h1⟩ := trod_struct2 hu h
  have hc : Tryz.prog.cellsOf 103 = 2 := by kernel_rfl
  have hc0 : Tryz.prog.cellsOf 9 = 1 := by kernel_rfl
  have hc1 : Tryz.prog.cellsOf 4 = 1 := by kernel_rfl
  rw [e0, e1, hc0] at h0
  rw [e2, e3, hc1] at h1
  rw [hc] at hl
  obtain ⟨s, k0, k1, _⟩ := DataW.trod_string Tryz.underlying9 h0
  obtain ⟨b, k2, k3⟩ := DataW.trod_bool Tryz.underlying4 h1
  match cs, hl with
  | [c0, c1], _ =>
    simp at k0 k2
    subst k0 k2
    rw [hxe, k1, k3] at hx
    simp at hx
    obtain ⟨rfl, rfl⟩ := hx
    simp

theorem tags_cells {H : Type} {enc : TypeId × Value → H} {w : World} {base : Nat} {sp : Nat → Bool} {held : Bool} {fuel : Nat} {cs : List Value} {p : List MemPlace}
    (h : DataW.trod enc Tryz.prog w base sp held fuel 104 cs = some (.agg gData, p)) : cs = gC := by
  have ht : Tryz.prog.underlying 104 = some (.array 26 103) := Tryz.underlying104
  have hce : Tryz.prog.cellsOf 103 = 2 := by kernel_rfl
  have hct : Tryz.prog.cellsOf 104 = 52 := by kernel_rfl
  cases fuel with
  | zero => simp [DataW.trod] at h
  | succ fuel =>
    simp only [DataW.trod, ht, hce, hct] at h
    split at h
    · rename_i hl
      obtain ⟨xs, hm, hx⟩ := Option.map_eq_some_iff.1 h
      have hxs : xs.map (·.1) = (gData : List (DataW H)) := by
        have := congrArg Prod.fst hx
        simpa using this
      have key : ∀ i, i < 26 → (cs.drop (i * 2)).take 2 = [.string (nameG i), .bool (regG i)] := by
        intro i hi
        obtain ⟨b, hb, hf⟩ := Lib.mapM_at hm i i (by simp [hi])
        refine old_cells hf ?_
        have h2 : (xs.map (·.1))[i]? = some b.1 := by simp [hb]
        rw [hxs, gData_at i hi] at h2
        exact (Option.some.inj h2).symm
      apply List.ext_getElem?
      intro j
      rcases Nat.lt_or_ge j 52 with hj | hj
      · have hk := key (j / 2) (by omega)
        rcases Nat.mod_two_eq_zero_or_one j with h0 | h1
        · have hj2 : j = j / 2 * 2 := by omega
          have := congrArg (·[0]?) hk
          simp only [List.getElem?_take, List.getElem?_drop] at this
          rw [hj2, gC_name (j / 2) (by omega)]
          simpa using this
        · have hj2 : j = j / 2 * 2 + 1 := by omega
          have := congrArg (·[1]?) hk
          simp only [List.getElem?_take, List.getElem?_drop] at this
          rw [hj2, gC_reg (j / 2) (by omega)]
          simpa using this
      · rw [List.getElem?_eq_none (by omega), List.getElem?_eq_none (by rw [gC_len]; omega)]
    · cases h

/-- What the condition gives a walk. -/
theorem gl_of_laid {W : World} (h : laidMetH Tryz.prog [("isogloss/grand.tags", Rows.laid_isogloss_grand_tags)] W) : GL W := by
  rw [MakeChecks.laidMetH_plain _ _ _ (by kernel_rfl)] at h
  obtain ⟨ps, ⟨g', t', cs, fuel, p, q, hg', ht', hvar, hd, _, _⟩, _⟩ := h
  have hty : (Tryz.prog.globals[0]?).map (·.type) = some 104 := by kernel_rfl
  obtain rfl := Option.some.inj (gGlobal.symm.trans hg')
  obtain rfl := Option.some.inj (hty.symm.trans ht')
  have hd' : DataW.trod _ Tryz.prog W 0 _ _ fuel 104 cs.toList = some (.agg gData, p) := hd
  have := tags_cells hd'
  show World.var? _ _ _ = _
  rw [hvar, ← this]
end Go.Proofs.YtpnhjpplfjamkaaGreatDoor

/-! What the rows of the image statements share: both listed variables. -/
namespace Go.Proofs.YtpnhjpplfjamkaaGreatDoor
open Go.ChangeShapes Go.WideShapes Go.ChangeAt Go.RowKit Go.Deep

def laid7 : List (String × DataW Unit) := [("errors.errorType", Rows.laid_errors_errorType), ("isogloss/grand.tags", Rows.laid_isogloss_grand_tags)]
/-- A world that meets the condition: the settled one, the two variables laid. -/
noncomputable def laidWorld7 (os : Os) : World :=
  let w0 := World.holding Tryz.prog os ⟨#[], #[], []⟩
  let put (b : Nat) (l : List Value) (h : Array Obj) : Array Obj := h.modify b fun
    | .cells _ t frozen => .cells l.toArray t frozen
    | o => o
  { w0 with heap := put 0 gC (put 1 [.iface 150 (.agg #[.pointer (some ⟨3, 41, none⟩)])] w0.heap) }
theorem laidWorld7_plain (os : Os) (args : Array Value) : laidMet Tryz.prog [("isogloss/grand.tags", Rows.laid_isogloss_grand_tags)] ((laidWorld7 os).forCall (fun _ _ => 0) ⟨#[], args, []⟩).memory :=
  (LaidIn.of_run [0] 8 (by kernel_rfl) (by kernel_rfl) (by kernel_rfl) (by kernel_rfl)).met
theorem laidWorld7_met (os : Os) (args : Array Value) : laidMetH Tryz.prog laid7 ((laidWorld7 os).forCall (fun _ _ => 0) ⟨#[], args, []⟩).memory :=
  laidMetH_of_parts (laidWorld7_plain os args) (by kernel_rfl)
end Go.Proofs.YtpnhjpplfjamkaaGreatDoor
