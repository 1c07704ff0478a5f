/-
  CheckMore: its statement (the tied card), for every input. Condition: the listed variables are as the program's text lays them (tied by the card).
-/
import Derived.Test.YtaalecdokidmnaaGreatDoorRows
import Derived.Test.YtaalecdokidmnaaGreatDoorOMoreA
import Derived.Test.YtaalecdokidmnaaGreatDoorZArgs
import Derived.Test.YtaalecdokidmnaaGreatDoorRowKits
import Derived.Test.YtaalecdokidmnaaGreatDoorCards
import Derived.Test.YtaalecdokidmnaaGreatDoorTie
import Derived.ProofKit
import Derived.OpenShut
import Derived.ChangeMaps5
import Derived.LaidMore
import Derived.Lay
import Derived.SevenTiedAt
import Derived.Stop.Joined
namespace Go.Proofs.YtaalecdokidmnaaGreatDoor
open Go.ChangeShapes Go.WideShapes Go.ChangeAt Go.ChangeMaps Go.RowKit

theorem checkMore_own : ownKnob Tryz.prog.godebug = none := by kernel_rfl

set_option maxRecDepth 100000 in
theorem checkMore_lifted (os : Os) (started : os.Started) (H : Type) (enc : TypeId × Value → H) :
    ReturnsInHanded {} Tryz.checked os 5 .any (fun w args => (Rows.checkMoreSpec.pre enc Tryz.prog Tryz.f5 [] false w args ∧ laidMetH Tryz.prog laid7 w) ∧ sizedMet enc Tryz.prog Tryz.f5 (OpenSpec.ofChange Rows.checkMoreSpec) false w args)
      (Rows.checkMoreSpec.post enc Tryz.prog Tryz.f5 false true false false) := by
  refine returnsInHanded_of_change_and (C := Tryz.checked) (X := fun w _ => laidMetH Tryz.prog laid7 w) (fun _ _ _ hh h => h.of_heap hh) checkMore_own started (by kernel_rfl) Tryz.func5
    (ChangeSpec.witness_at (enc := enc) (C := Tryz.checked) (os := os) (X := fun w _ => laidMetH Tryz.prog laid7 w) false (laidWorld7 os) #[.agg #[.slice none 0 0, .slice none 0 0, .slice none 0 0, .slice none 0 0, .int .i64 0, .int .i64 0, .int .i64 0], .agg #[.int .i64 0, .int .i64 0, .int .i64 0, .int .i64 0]] 8 rfl (by kernel_rfl) (by kernel_rfl) (by kernel_rfl) (by kernel_rfl) (by kernel_rfl) (laidWorld7_met os _)) ?_
  intro W base args ds gs before hval0 hW _ _ hL _
  have hval : ∀ (j : Nat) t v, Tryz.f5.params[j]? = some t → args[j]? = some v → Value.okWide Tryz.prog W .any base t v := hval0
  have hW' := hW
  obtain ⟨p, q, hA0, hV, rfl, hfz, hnd⟩ := hW
  have hA : DataW.TrodAll enc Tryz.prog W 0 (fun _ => true) true Tryz.f5.params.toList args.toList ds p := hA0
  rw [Tryz.params5] at hA hval
  obtain ⟨v0, vs0, d0, ds0, p0, q0, hargs, rfl, rfl, h0, r0⟩ := trodAll_cons hA
  obtain ⟨v1, vs1, d1, ds1, p1, q1, rfl, rfl, rfl, h1, r1⟩ := trodAll_cons r0
  obtain ⟨rfl, rfl, rfl⟩ := trodAll_nil r1
  obtain rfl : args = #[v0, v1] := by cases args; simp_all
  obtain ⟨rfl, rfl⟩ := trodVars_none hV
  have k0 := h0
  have lt0 : ∀ x ∈ p0, x.block < W.heap.size := by obtain ⟨m, hm⟩ := k0; exact DataW.trod_lt m _ _ _ hm
  obtain ⟨S0, va0, vl0, vr0, vm0, rfl, w0⟩ := open_seed13 (hval 0 25 v0 rfl rfl) h0
  have k1 := h1
  have lt1 : ∀ x ∈ p1, x.block < W.heap.size := by obtain ⟨m, hm⟩ := k1; exact DataW.trod_lt m _ _ _ hm
  obtain ⟨a1, b1, c1, e1, rfl, -, -, -, -, -, -⟩ := open_arr4O (hval 1 46 v1 rfl rfl) h1
  clear hA0 hval0
  refine (checkMore_law S0 va0 vl0 vr0 vm0 a1 b1 c1 e1 W w0 (zLaid_of hL)).mono fun e W' ⟨he, bel⟩ => ?_
  subst he
  exact ⟨_, rfl, _, _, _, [], _, [], hW', trodAll_mk1 (shut_bool Tryz.underlying4 _), (trodAll_cons_mk (Below.trod laidOutN (by kernel_rfl) (of_decide_eq_true (by kernel_rfl)) k0 bel lt0) (trodAll_cons_mk (Below.trod laidOutN (by kernel_rfl) (of_decide_eq_true (by kernel_rfl)) k1 bel lt1) trodAll_mk0)), rfl, bel.frame _, fun h => by cases h⟩

theorem checkMore_andJ {a b : Bool} (h1 : a = true) (h2 : b = true) : (a && b) = true := by rw [h1, h2]; rfl
theorem checkMore_j0 : (Rows.checkMoreRow.wf (OpenSpec.ofChange Rows.checkMoreSpec)) = true := by kernel_rfl
theorem checkMore_j1 : (laidOutB Tryz.prog) = true := by kernel_rfl
theorem checkMore_j2 : (mapsRowed Tryz.prog) = true := by kernel_rfl
theorem checkMore_j3 : (Tryz.f5.params.all (Tryz.prog.readableRec ·)) = true := by kernel_rfl
theorem checkMore_j4 : (namedTie Tryz.prog Rows.checkMoreRow.named Rows.checkMoreSpec.vars) = true := by kernel_rfl
theorem checkMore_j5 : ((Rows.checkMoreRow.stops == [])) = true := by kernel_rfl
theorem checkMore_j6 : ((Tryz.prog.stops == [])) = true := by kernel_rfl
theorem checkMore_j7 : ((Rows.checkMoreRow.knobs == [])) = true := by kernel_rfl
theorem checkMore_j8 : ((Tryz.prog.stopKnobs == [])) = true := by kernel_rfl
theorem checkMore_j9 : ((Rows.checkMoreRow.inPlace == Tryz.prog.inPlace 5)) = true := by kernel_rfl
theorem checkMore_j10 : ((Rows.checkMoreRow.unfollowed == Tryz.prog.unfollowed 5)) = true := by kernel_rfl
theorem checkMore_j11 : ((Rows.checkMoreRow.recurses == Tryz.prog.recurses 5)) = true := by kernel_rfl
theorem checkMore_j12 : ((Rows.checkMoreRow.named == Tryz.prog.varsNamed 5)) = true := by kernel_rfl
theorem checkMore_j13 : ((Rows.checkMoreRow.maps == (Tryz.f5.params.toList ++ Rows.checkMoreSpec.plain.varTypes Tryz.prog).any (Tryz.prog.mapsRec ·))) = true := by kernel_rfl
theorem checkMore_j14 : ((Rows.checkMoreRow.ifaces == (Tryz.f5.params.toList ++ Rows.checkMoreSpec.plain.varTypes Tryz.prog).any (Tryz.prog.ifacesRec ·))) = true := by kernel_rfl
theorem checkMore_j15 : ((Rows.checkMoreRow.mapsOut == Tryz.prog.mapsAmong Tryz.f5.resultTypes.toList)) = true := by kernel_rfl
theorem checkMore_j16 : ((Rows.checkMoreRow.loops == (Tryz.f5.params.toList ++ Rows.checkMoreSpec.plain.varTypes Tryz.prog).any (Tryz.prog.loopsFrom ·))) = true := by kernel_rfl
theorem checkMore_j17 : ((Rows.checkMoreRow.wideKeys == (Tryz.f5.params.toList ++ Rows.checkMoreSpec.plain.varTypes Tryz.prog ++ Tryz.f5.resultTypes.toList).any (Tryz.prog.wideKeysFrom ·))) = true := by kernel_rfl
theorem checkMore_j18 : (Rows.checkMoreSpec.vars.all (Tryz.prog.varReadable ·)) = true := by kernel_rfl
theorem checkMore_j19 : (Tryz.f5.resultTypes.all (fun t => Tryz.prog.readableRec t && decide (t < Tryz.prog.types.size))) = true := by kernel_rfl
theorem checkMore_j20 : ((Rows.checkMoreRow.ifacesOut == Tryz.f5.resultTypes.toList.any (Tryz.prog.ifacesRec ·))) = true := by kernel_rfl
theorem checkMore_j21 : ((Rows.checkMoreRow.loopsOut == Tryz.f5.resultTypes.toList.any (Tryz.prog.loopsFrom ·))) = true := by kernel_rfl
theorem checkMore_j22 : ((Rows.checkMoreRow.plainKeys == Tryz.prog.plainKeys)) = true := by kernel_rfl
theorem checkMore_j23 : (Rows.checkMoreRow.shortTexts.isNone) = true := by kernel_rfl
theorem checkMore_j24 : (Tryz.prog.stopsHeard) = true := by kernel_rfl
theorem checkMore_j25 : (Tryz.prog.mayEnter) = true := by kernel_rfl
theorem checkMore_j26 : ((Rows.checkMoreRow.lifted == Tryz.prog.liftsFinal)) = true := by kernel_rfl
theorem checkMore_j27 : ((Tryz.prog.make == some Rows.checkMoreRow.make)) = true := by kernel_rfl
theorem checkMore_j28 : ((Rows.checkMoreRow.kinds == (if Rows.checkMoreRow.domain.isEmpty then [] else Tryz.f5.params.toList.map fun t => match Tryz.prog.underlying t with | some (.int k) => some k | _ => none))) = true := by kernel_rfl
theorem checkMore_j29 : ((Rows.checkMoreRow.pinned == Rows.checkMoreRow.pinnedBy)) = true := by kernel_rfl
theorem checkMore_j30 : ((Rows.checkMoreRow.veiled == (Tryz.f5.params.toList ++ Rows.checkMoreSpec.plain.varTypes Tryz.prog ++ Tryz.f5.resultTypes.toList).any (Tryz.prog.veiledRec ·))) = true := by kernel_rfl
theorem checkMore_j31 : (Rows.checkMoreRow.veiledFits Tryz.prog Tryz.f5.params.toList (Tryz.f5.params.toList ++ Rows.checkMoreSpec.plain.varTypes Tryz.prog ++ Tryz.f5.resultTypes.toList)) = true := by kernel_rfl
set_option maxRecDepth 100000 in
theorem checkMore_joined : joinedFacts Tryz.prog 5 Tryz.f5 Rows.checkMoreSpec Rows.checkMoreRow = true := by
  unfold joinedFacts
  exact (checkMore_andJ (checkMore_andJ (checkMore_andJ (checkMore_andJ (checkMore_andJ (checkMore_andJ (checkMore_andJ (checkMore_andJ (checkMore_andJ (checkMore_andJ (checkMore_andJ (checkMore_andJ (checkMore_andJ (checkMore_andJ (checkMore_andJ (checkMore_andJ (checkMore_andJ (checkMore_andJ (checkMore_andJ (checkMore_andJ (checkMore_andJ (checkMore_andJ (checkMore_andJ (checkMore_andJ (checkMore_andJ (checkMore_andJ (checkMore_andJ (checkMore_andJ (checkMore_andJ (checkMore_andJ (checkMore_andJ checkMore_j0 checkMore_j1) checkMore_j2) checkMore_j3) checkMore_j4) checkMore_j5) checkMore_j6) checkMore_j7) checkMore_j8) checkMore_j9) checkMore_j10) checkMore_j11) checkMore_j12) checkMore_j13) checkMore_j14) checkMore_j15) checkMore_j16) checkMore_j17) checkMore_j18) checkMore_j19) checkMore_j20) checkMore_j21) checkMore_j22) checkMore_j23) checkMore_j24) checkMore_j25) checkMore_j26) checkMore_j27) checkMore_j28) checkMore_j29) checkMore_j30) checkMore_j31)

theorem checkMore_over : Rows.CheckMoreSaid :=
  OpenClaim.holds_of_wide 5 Tryz.f5 rfl rfl rfl rfl rfl rfl rfl ⟨rfl, rfl, rfl, rfl, rfl⟩ rfl rfl rfl rfl rfl (by kernel_rfl) Tryz.func5 checkMore_joined
    (of_decide_eq_true (by kernel_rfl)) (by unfold Func.isWrapper; rw [if_neg (of_decide_eq_false (by kernel_rfl))]; exact ⟨rfl, rfl⟩)
    (fun os started H enc _ => checkMore_lifted os started H enc)

theorem checkMore_h1 : Rows.checkMoreRow.wfByText (OpenSpec.ofChange Rows.checkMoreSpec) = true := by kernel_rfl
theorem checkMore_h2 : Tryz.prog.mainIs = some (((true, "4187dccc7af4f76cfa6df693b55ef19998e2ca40a45f637f38ff26a15339c62d") : Bool × String).1, ((true, "4187dccc7af4f76cfa6df693b55ef19998e2ca40a45f637f38ff26a15339c62d") : Bool × String).2.toList) := by kernel_rfl
theorem checkMore_h3 : true = Tryz.prog.looks [] := by kernel_rfl
theorem checkMore_h4 : false = Rows.checkMoreRow.goesBy Tryz.prog := by kernel_rfl
theorem checkMore_h5 : Tryz.prog.funcNamed "isogloss/isoglosslaw14.CheckMore" = some 5 := by kernel_rfl

/-- The statement. -/
theorem checkMore_holds : Rows.CheckMoreCardSaid :=
  Claim7.holds_tied_plain_at .later [] [.handle, .data] true (true, "4187dccc7af4f76cfa6df693b55ef19998e2ca40a45f637f38ff26a15339c62d") true
    checkMore_over (fun _ h => by cases h) checkMore_h1 (fun _ h => by cases h) checkMore_row_tie rfl ⟨rfl, rfl⟩ checkMore_h2 rfl
    (fun f fn hf hfn => by
      obtain rfl : f = 5 := Option.some.inj (checkMore_h5.symm.trans hf) |>.symm
      obtain rfl : fn = Tryz.f5 := (Option.some.inj (Tryz.func5.symm.trans hfn)).symm
      exact ⟨checkMore_h3, fun j t ht => by
        rw [Tryz.params5] at ht
        have hm : t ∈ [25, 46] := by simpa using Array.mem_of_getElem? ht
        have hall : ([25, 46].all fun u => !Tryz.prog.wantsStandIn u) = true := by kernel_rfl
        exact (show Tryz.prog.wantsStandIn t = false by simpa using List.all_eq_true.1 hall t hm)⟩)
    checkMore_h4
end Go.Proofs.YtaalecdokidmnaaGreatDoor
