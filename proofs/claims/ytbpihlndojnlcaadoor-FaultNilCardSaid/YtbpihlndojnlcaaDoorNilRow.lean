/-
  FaultNil: its statement, for every input. Condition: errors.errorType and three tables are as the program's text lays them (tied by the card).
-/
import Derived.Test.YtbpihlndojnlcaaDoorRowKit
import Derived.Test.YtbpihlndojnlcaaDoorNilLaw
import Derived.Test.YtbpihlndojnlcaaDoorCards
import Derived.Test.YtbpihlndojnlcaaDoorTie
import Derived.SevenTiedAt
import Derived.OpenShut
import Derived.ChangeMaps5
import Derived.Lib.LaidTab
import Derived.Lib.LaidIn
namespace Go.Proofs.YtbpihlndojnlcaaDoor
open Go.ChangeShapes Go.WideShapes Go.ChangeAt Go.RowKit Go.Deep

/-- The numbers that a listed table holds. -/
def litsOf : DataW Unit → List Value
  | .agg l => l.map fun
    | .lit (.int k z) => .int k z
    | _ => .bool false
  | _ => []
def laid4 : List (String × DataW Unit) := Rows.faultNilRow.laid
def laid3 : List (String × DataW Unit) := laid4.take 3

/-- A world that meets the condition: the settled one, the four variables laid. -/
noncomputable def laidWorldN (os : Os) : World :=
  let w0 := World.holding Tryd.prog os ⟨#[], #[], []⟩
  let put (b : Nat) (l : List Value) (h : Array Obj) : Array Obj := h.modify b fun
    | .cells _ t frozen => .cells l.toArray t frozen
    | o => o
  { w0 with heap := put 2 (litsOf Rows.laid_math_bits_deBruijn32tab) (put 3 (litsOf Rows.laid_math_bits_deBruijn64tab) (put 1 (litsOf Rows.laid_internal_strconv_uint64pow10)
      (put 0 [.iface 101 (.agg #[.pointer (some ⟨4, 29, none⟩)])] w0.heap))) }
theorem laidWorldN_met3 (os : Os) (args : Array Value) : laidMet Tryd.prog laid3 ((laidWorldN os).forCall (fun _ _ => 0) ⟨#[], args, []⟩).memory :=
  (LaidIn.of_run [2, 3, 1] 8 (by kernel_rfl) (by kernel_rfl) (by kernel_rfl) (by kernel_rfl)).met
theorem laidWorldN_met (os : Os) (args : Array Value) : laidMetH Tryd.prog laid4 ((laidWorldN os).forCall (fun _ _ => 0) ⟨#[], args, []⟩).memory :=
  laidMetH_of_parts (laidWorldN_met3 os args) (by kernel_rfl)

theorem tabType : (Tryd.prog.globals[1]?).map (·.type) = some 120 := by kernel_rfl
/-- What the condition gives a walk: the variable's one cell; the table of tens. -/
theorem laid4_gives {W : World} (h : laidMetH Tryd.prog laid4 W) : TypeLaid W ∧ TabLaid W := by
  have h' : laidMet Tryd.prog laid3 W ∧ handlesMet Tryd.prog [("errors.errorType", Rows.laid_errors_errorType)] W := h
  obtain ⟨⟨ps, hv, _⟩, hh⟩ := h'
  constructor
  · obtain ⟨name, u, ty, e1, e2, e3, e4, e5⟩ := hh _ (List.mem_singleton.2 rfl)
    have en : name = [101, 114, 114, 111, 114] := (Option.some.inj e1).symm
    subst en
    obtain rfl := Option.some.inj (laidRt.symm.trans e2)
    have hm : ty ∈ (List.range 155).filter fun t => Tryd.prog.rowNamed t [101, 114, 114, 111, 114] := List.mem_filter.2 ⟨List.mem_range.2 (by rw [← laidSize]; exact e3), e4⟩
    rw [laidOneRow] at hm
    obtain rfl := List.mem_singleton.1 hm
    have hh : typeHandle Tryd.prog 29 = .pointer (some ⟨4, 29, none⟩) := by kernel_rfl
    rw [hh] at e5
    show W.cell? ⟨0, 0, none⟩ = _
    simpa using World.var?_cell laidEt e5 0
  · obtain ⟨_, _, _, _, _, _, _, _, _, _, ⟨_, _, _, _, _, _, _, _, _, _, ⟨g', t', cs, fuel, p, q, hg', ht', hvar, hd, _, _⟩, _⟩, _⟩ := hv
    obtain rfl := Option.some.inj (tabGlobal.symm.trans hg')
    obtain rfl := Option.some.inj (tabType.symm.trans ht')
    show Lib.TabIs _ _ _ _ _
    unfold Lib.TabIs
    refine hvar.trans ?_
    have := Lib.cells_of_tab (k := .u64) (zs := Lib.pow10Tab) Tryd.underlying120 Tryd.underlying113 (by kernel_rfl) (by kernel_rfl) hd
    rw [← this]

theorem TabLaid.size {W : World} (h : TabLaid W) : 1 < W.heap.size := by
  have h' : World.var? Tryd.prog W "internal/strconv.uint64pow10" = _ := h
  unfold World.var? at h'
  rw [tabGlobal] at h'
  rcases Nat.lt_or_ge 1 W.heap.size with hl | hl
  · exact hl
  · simp [Array.getElem?_eq_none hl] at h'

set_option maxRecDepth 100000 in
theorem faultNil_lifted (os : Os) (started : os.Started) (H : Type) (enc : TypeId × Value → H) :
    ReturnsInHanded {} Tryd.checked os 5 .any (fun w args => (Rows.faultNilSpec.pre enc Tryd.prog Tryd.f5 [] false w args ∧ laidMetH Tryd.prog laid4 w) ∧ sizedMet enc Tryd.prog Tryd.f5 (OpenSpec.ofChange Rows.faultNilSpec) false w args)
      (Rows.faultNilSpec.post enc Tryd.prog Tryd.f5 false true false false) := by
  refine returnsInHanded_of_change_and (C := Tryd.checked) (X := fun w _ => laidMetH Tryd.prog laid4 w) (fun _ _ _ hh h => h.of_heap hh) own started (by kernel_rfl) Tryd.func5
    (ChangeSpec.witness_at (enc := enc) (C := Tryd.checked) (os := os) (X := fun w _ => laidMetH Tryd.prog laid4 w) false (laidWorldN os) #[.int .i64 0, .string ByteArray.empty] 8 rfl (by kernel_rfl) (by kernel_rfl) (by kernel_rfl) (by kernel_rfl) (by kernel_rfl) (laidWorldN_met os _)) ?_
  intro W base args ds gs before hval0 hW _ _ hL _
  have hval : ∀ (j : Nat) t v, Tryd.f5.params[j]? = some t → args[j]? = some v → Value.okWide Tryd.prog W .any base t v := hval0
  have hW' := hW
  obtain ⟨p, q, hA0, hV0, rfl, hfz, hnd⟩ := hW
  have hA : DataW.TrodAll enc Tryd.prog W 0 (fun _ => true) true Tryd.f5.params.toList args.toList ds p := hA0
  have hV : DataW.TrodVars enc Tryd.prog W (fun _ => true) [] gs q := hV0
  rw [Tryd.params5] at hA hval
  obtain ⟨v0, vs0, d0, ds0, p0, q0, hargs, rfl, rfl, h0, r0⟩ := trodAll_cons hA
  obtain ⟨v1, vs1, d1, ds1, p1, q1, rfl, rfl, rfl, h1, r1⟩ := trodAll_cons r0
  obtain ⟨rfl, rfl, rfl⟩ := trodAll_nil r1
  obtain rfl : args = #[v0, v1] := by cases args; simp_all
  obtain ⟨rfl, rfl⟩ := trodVars_none hV
  obtain ⟨a0, rfl, rfl, rfl, w0⟩ := open_int Tryd.underlying3 (hval 0 3 v0 rfl rfl) h0
  obtain ⟨s1, rfl⟩ := okWide_string Tryd.underlying9 (hval 1 9 v1 rfl rfl)
  obtain ⟨rfl, rfl, w1⟩ : d1 = .lit (.string s1.data.toList) ∧ p1 = [] ∧ s1.size ≤ maxLen := by
    obtain ⟨fuel, hf⟩ := h1
    obtain ⟨s', e1, e2, e3⟩ := DataW.trod_string Tryd.underlying9 hf
    simp [Value.cells] at e1
    subst e1
    simp at e2
    exact ⟨e2.1, e2.2, e3⟩
  have hb : -9223372036854775808 ≤ a0 ∧ a0 ≤ 9223372036854775807 := by
    simpa [Lit.wf, IntKind.min, IntKind.max, IntKind.signed, IntKind.bits] using w0
  clear hA0 hval0
  obtain ⟨hT, hTab⟩ := laid4_gives hL
  refine (nil_law a0 s1 W hb.1 hb.2 hT hTab hTab.size).mono fun e W' ⟨he, bel⟩ => ?_
  subst he
  exact ⟨_, rfl, _, _, _, [], _, [], hW', trodAll_mk1 (shut_bool Tryd.underlying4 _), (trodAll_cons_mk (shut_int Tryd.underlying3 w0) (trodAll_cons_mk (Go.ChangeMaps.shut_string Tryd.underlying9 w1) trodAll_mk0)), rfl, bel.frame _, fun h => by cases h⟩

theorem faultNil_over : Rows.FaultNilSaid :=
  OpenClaim.holds_of_wide 5 Tryd.f5 rfl rfl rfl rfl rfl rfl rfl ⟨rfl, rfl, rfl, rfl, rfl⟩ rfl rfl rfl rfl rfl (by kernel_rfl) Tryd.func5 (by kernel_rfl)
    (of_decide_eq_true (by kernel_rfl)) (by unfold Func.isWrapper; rw [if_neg (of_decide_eq_false (by kernel_rfl))]; exact ⟨rfl, rfl⟩)
    (fun os started H enc _ => faultNil_lifted os started H enc)

/-- The statement. -/
theorem faultNil_holds : Rows.FaultNilCardSaid :=
  Claim7.holds_tied_plain_at .later [] [.data, .data, .data, .handle] true (true, "c039dc134dc072debce3ae2ada924603dc75e9c0e0c8580fa09add4f4e9add43") true
    faultNil_over (fun _ h => by cases h) (by kernel_rfl) (fun _ h => by cases h) faultNil_row_tie rfl ⟨rfl, rfl⟩ (by kernel_rfl) rfl
    (fun f fn hf hfn => by
      obtain rfl : f = 5 := Option.some.inj ((show Tryd.prog.funcNamed "isogloss/isoglosslaw01.FaultNil" = some 5 by kernel_rfl).symm.trans hf) |>.symm
      obtain rfl : fn = Tryd.f5 := (Option.some.inj (Tryd.func5.symm.trans hfn)).symm
      exact ⟨by kernel_rfl, fun j t ht => by
        rw [Tryd.params5] at ht
        have h3 : t = 3 ∨ t = 9 := by
          rcases j with _ | _ | j
          · exact .inl (by simpa using ht.symm)
          · exact .inr (by simpa using ht.symm)
          · simp at ht
        rcases h3 with rfl | rfl
        · exact (show Tryd.prog.wantsStandIn 3 = false by kernel_rfl)
        · exact (show Tryd.prog.wantsStandIn 9 = false by kernel_rfl)⟩)
    (by kernel_rfl)
end Go.Proofs.YtbpihlndojnlcaaDoor
