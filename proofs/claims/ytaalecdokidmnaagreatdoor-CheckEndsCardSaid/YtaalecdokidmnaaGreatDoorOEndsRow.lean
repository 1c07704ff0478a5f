/-
  CheckEnds: its statement (the tied card), for every input. Condition: the listed variables are as the program's text lays them (tied by the card).
-/
import Derived.Test.YtaalecdokidmnaaGreatDoorRows
import Derived.Test.YtaalecdokidmnaaGreatDoorOEndsM
import Derived.Test.YtaalecdokidmnaaGreatDoorZArgs
import Derived.Test.YtaalecdokidmnaaGreatDoorRowKits
import Derived.Test.YtaalecdokidmnaaGreatDoorCards
import Derived.Test.YtaalecdokidmnaaGreatDoorTie
import Derived.ProofKit
import Derived.OpenShut
import Derived.ChangeMaps5
import Derived.LaidMore
import Derived.Lay
import Derived.SevenTiedAt
import Derived.Stop.Joined
namespace Go.Proofs.YtaalecdokidmnaaGreatDoor
open Go.ChangeShapes Go.WideShapes Go.ChangeAt Go.ChangeMaps Go.RowKit

theorem checkEnds_own : ownKnob Tryz.prog.godebug = none := by kernel_rfl

set_option maxRecDepth 100000 in
theorem checkEnds_lifted (os : Os) (started : os.Started) (H : Type) (enc : TypeId × Value → H) :
    ReturnsInHanded {} Tryz.checked os 3 .any (fun w args => (Rows.checkEndsSpec.pre enc Tryz.prog Tryz.f3 [] false w args ∧ laidMetH Tryz.prog laid7 w) ∧ sizedMet enc Tryz.prog Tryz.f3 (OpenSpec.ofChange Rows.checkEndsSpec) false w args)
      (Rows.checkEndsSpec.post enc Tryz.prog Tryz.f3 false true false false) := by
  refine returnsInHanded_of_change_and (C := Tryz.checked) (X := fun w _ => laidMetH Tryz.prog laid7 w) (fun _ _ _ hh h => h.of_heap hh) checkEnds_own started (by kernel_rfl) Tryz.func3
    (ChangeSpec.witness_at (enc := enc) (C := Tryz.checked) (os := os) (X := fun w _ => laidMetH Tryz.prog laid7 w) false (laidWorld7 os) #[.agg #[.slice none 0 0, .slice none 0 0, .slice none 0 0, .slice none 0 0, .int .i64 0, .int .i64 0, .int .i64 0], .agg #[.int .i64 0, .int .i64 0, .int .i64 0, .int .i64 0, .int .i64 0, .int .i64 0, .int .i64 0]] 8 rfl (by kernel_rfl) (by kernel_rfl) (by kernel_rfl) (by kernel_rfl) (by kernel_rfl) (laidWorld7_met os _)) ?_
  intro W base args ds gs before hval0 hW _ _ hL _
  have hval : ∀ (j : Nat) t v, Tryz.f3.params[j]? = some t → args[j]? = some v → Value.okWide Tryz.prog W .any base t v := hval0
  have hW' := hW
  obtain ⟨p, q, hA0, hV, rfl, hfz, hnd⟩ := hW
  have hA : DataW.TrodAll enc Tryz.prog W 0 (fun _ => true) true Tryz.f3.params.toList args.toList ds p := hA0
  rw [Tryz.params3] at hA hval
  obtain ⟨v0, vs0, d0, ds0, p0, q0, hargs, rfl, rfl, h0, r0⟩ := trodAll_cons hA
  obtain ⟨v1, vs1, d1, ds1, p1, q1, rfl, rfl, rfl, h1, r1⟩ := trodAll_cons r0
  obtain ⟨rfl, rfl, rfl⟩ := trodAll_nil r1
  obtain rfl : args = #[v0, v1] := by cases args; simp_all
  obtain ⟨rfl, rfl⟩ := trodVars_none hV
  have k0 := h0
  have lt0 : ∀ x ∈ p0, x.block < W.heap.size := by obtain ⟨m, hm⟩ := k0; exact DataW.trod_lt m _ _ _ hm
  obtain ⟨S0, va0, vl0, vr0, vm0, rfl, w0⟩ := open_seed13 (hval 0 25 v0 rfl rfl) h0
  have k1 := h1
  have lt1 : ∀ x ∈ p1, x.block < W.heap.size := by obtain ⟨m, hm⟩ := k1; exact DataW.trod_lt m _ _ _ hm
  obtain ⟨S1, rfl⟩ := open_seed12O (hval 1 27 v1 rfl rfl) h1
  clear hA0 hval0
  refine (checkEnds_law S0 va0 vl0 vr0 vm0 S1 W w0 (zLaid_of hL)).mono fun e W' ⟨he, bel⟩ => ?_
  subst he
  exact ⟨_, rfl, _, _, _, [], _, [], hW', trodAll_mk1 (shut_bool Tryz.underlying4 _), (trodAll_cons_mk (Below.trod laidOutN (by kernel_rfl) (of_decide_eq_true (by kernel_rfl)) k0 bel lt0) (trodAll_cons_mk (Below.trod laidOutN (by kernel_rfl) (of_decide_eq_true (by kernel_rfl)) k1 bel lt1) trodAll_mk0)), rfl, bel.frame _, fun h => by cases h⟩

theorem checkEnds_andJ {a b : Bool} (h1 : a = true) (h2 : b = true) : (a && b) = true := by rw [h1, h2]; rfl
theorem checkEnds_j0 : (Rows.checkEndsRow.wf (OpenSpec.ofChange Rows.checkEndsSpec)) = true := by kernel_rfl
theorem checkEnds_j1 : (laidOutB Tryz.prog) = true := by kernel_rfl
theorem checkEnds_j2 : (mapsRowed Tryz.prog) = true := by kernel_rfl
theorem checkEnds_j3 : (Tryz.f3.params.all (Tryz.prog.readableRec ·)) = true := by kernel_rfl
theorem checkEnds_j4 : (namedTie Tryz.prog Rows.checkEndsRow.named Rows.checkEndsSpec.vars) = true := by kernel_rfl
theorem checkEnds_j5 : ((Rows.checkEndsRow.stops == [])) = true := by kernel_rfl
theorem checkEnds_j6 : ((Tryz.prog.stops == [])) = true := by kernel_rfl
theorem checkEnds_j7 : ((Rows.checkEndsRow.knobs == [])) = true := by kernel_rfl
theorem checkEnds_j8 : ((Tryz.prog.stopKnobs == [])) = true := by kernel_rfl
theorem checkEnds_j9 : ((Rows.checkEndsRow.inPlace == Tryz.prog.inPlace 3)) = true := by kernel_rfl
theorem checkEnds_j10 : ((Rows.checkEndsRow.unfollowed == Tryz.prog.unfollowed 3)) = true := by kernel_rfl
theorem checkEnds_j11 : ((Rows.checkEndsRow.recurses == Tryz.prog.recurses 3)) = true := by kernel_rfl
theorem checkEnds_j12 : ((Rows.checkEndsRow.named == Tryz.prog.varsNamed 3)) = true := by kernel_rfl
theorem checkEnds_j13 : ((Rows.checkEndsRow.maps == (Tryz.f3.params.toList ++ Rows.checkEndsSpec.plain.varTypes Tryz.prog).any (Tryz.prog.mapsRec ·))) = true := by kernel_rfl
theorem checkEnds_j14 : ((Rows.checkEndsRow.ifaces == (Tryz.f3.params.toList ++ Rows.checkEndsSpec.plain.varTypes Tryz.prog).any (Tryz.prog.ifacesRec ·))) = true := by kernel_rfl
theorem checkEnds_j15 : ((Rows.checkEndsRow.mapsOut == Tryz.prog.mapsAmong Tryz.f3.resultTypes.toList)) = true := by kernel_rfl
theorem checkEnds_j16 : ((Rows.checkEndsRow.loops == (Tryz.f3.params.toList ++ Rows.checkEndsSpec.plain.varTypes Tryz.prog).any (Tryz.prog.loopsFrom ·))) = true := by kernel_rfl
theorem checkEnds_j17 : ((Rows.checkEndsRow.wideKeys == (Tryz.f3.params.toList ++ Rows.checkEndsSpec.plain.varTypes Tryz.prog ++ Tryz.f3.resultTypes.toList).any (Tryz.prog.wideKeysFrom ·))) = true := by kernel_rfl
theorem checkEnds_j18 : (Rows.checkEndsSpec.vars.all (Tryz.prog.varReadable ·)) = true := by kernel_rfl
theorem checkEnds_j19 : (Tryz.f3.resultTypes.all (fun t => Tryz.prog.readableRec t && decide (t < Tryz.prog.types.size))) = true := by kernel_rfl
theorem checkEnds_j20 : ((Rows.checkEndsRow.ifacesOut == Tryz.f3.resultTypes.toList.any (Tryz.prog.ifacesRec ·))) = true := by kernel_rfl
theorem checkEnds_j21 : ((Rows.checkEndsRow.loopsOut == Tryz.f3.resultTypes.toList.any (Tryz.prog.loopsFrom ·))) = true := by kernel_rfl
theorem checkEnds_j22 : ((Rows.checkEndsRow.plainKeys == Tryz.prog.plainKeys)) = true := by kernel_rfl
theorem checkEnds_j23 : (Rows.checkEndsRow.shortTexts.isNone) = true := by kernel_rfl
theorem checkEnds_j24 : (Tryz.prog.stopsHeard) = true := by kernel_rfl
theorem checkEnds_j25 : (Tryz.prog.mayEnter) = true := by kernel_rfl
theorem checkEnds_j26 : ((Rows.checkEndsRow.lifted == Tryz.prog.liftsFinal)) = true := by kernel_rfl
theorem checkEnds_j27 : ((Tryz.prog.make == some Rows.checkEndsRow.make)) = true := by kernel_rfl
theorem checkEnds_j28 : ((Rows.checkEndsRow.kinds == (if Rows.checkEndsRow.domain.isEmpty then [] else Tryz.f3.params.toList.map fun t => match Tryz.prog.underlying t with | some (.int k) => some k | _ => none))) = true := by kernel_rfl
theorem checkEnds_j29 : ((Rows.checkEndsRow.pinned == Rows.checkEndsRow.pinnedBy)) = true := by kernel_rfl
theorem checkEnds_j30 : ((Rows.checkEndsRow.veiled == (Tryz.f3.params.toList ++ Rows.checkEndsSpec.plain.varTypes Tryz.prog ++ Tryz.f3.resultTypes.toList).any (Tryz.prog.veiledRec ·))) = true := by kernel_rfl
theorem checkEnds_j31 : (Rows.checkEndsRow.veiledFits Tryz.prog Tryz.f3.params.toList (Tryz.f3.params.toList ++ Rows.checkEndsSpec.plain.varTypes Tryz.prog ++ Tryz.f3.resultTypes.toList)) = true := by kernel_rfl
set_option maxRecDepth 100000 in
theorem checkEnds_joined : joinedFacts Tryz.prog 3 Tryz.f3 Rows.checkEndsSpec Rows.checkEndsRow = true := by
  unfold joinedFacts
  exact (checkEnds_andJ (checkEnds_andJ (checkEnds_andJ (checkEnds_andJ (checkEnds_andJ (checkEnds_andJ (checkEnds_andJ (checkEnds_andJ (checkEnds_andJ (checkEnds_andJ (checkEnds_andJ (checkEnds_andJ (checkEnds_andJ (checkEnds_andJ (checkEnds_andJ (checkEnds_andJ (checkEnds_andJ (checkEnds_andJ (checkEnds_andJ (checkEnds_andJ (checkEnds_andJ (checkEnds_andJ (checkEnds_andJ (checkEnds_andJ (checkEnds_andJ (checkEnds_andJ (checkEnds_andJ (checkEnds_andJ (checkEnds_andJ (checkEnds_andJ (checkEnds_andJ checkEnds_j0 checkEnds_j1) checkEnds_j2) checkEnds_j3) checkEnds_j4) checkEnds_j5) checkEnds_j6) checkEnds_j7) checkEnds_j8) checkEnds_j9) checkEnds_j10) checkEnds_j11) checkEnds_j12) checkEnds_j13) checkEnds_j14) checkEnds_j15) checkEnds_j16) checkEnds_j17) checkEnds_j18) checkEnds_j19) checkEnds_j20) checkEnds_j21) checkEnds_j22) checkEnds_j23) checkEnds_j24) checkEnds_j25) checkEnds_j26) checkEnds_j27) checkEnds_j28) checkEnds_j29) checkEnds_j30) checkEnds_j31)

theorem checkEnds_over : Rows.CheckEndsSaid :=
  OpenClaim.holds_of_wide 3 Tryz.f3 rfl rfl rfl rfl rfl rfl rfl ⟨rfl, rfl, rfl, rfl, rfl⟩ rfl rfl rfl rfl rfl (by kernel_rfl) Tryz.func3 checkEnds_joined
    (of_decide_eq_true (by kernel_rfl)) (by unfold Func.isWrapper; rw [if_neg (of_decide_eq_false (by kernel_rfl))]; exact ⟨rfl, rfl⟩)
    (fun os started H enc _ => checkEnds_lifted os started H enc)

theorem checkEnds_h1 : Rows.checkEndsRow.wfByText (OpenSpec.ofChange Rows.checkEndsSpec) = true := by kernel_rfl
theorem checkEnds_h2 : Tryz.prog.mainIs = some (((true, "4187dccc7af4f76cfa6df693b55ef19998e2ca40a45f637f38ff26a15339c62d") : Bool × String).1, ((true, "4187dccc7af4f76cfa6df693b55ef19998e2ca40a45f637f38ff26a15339c62d") : Bool × String).2.toList) := by kernel_rfl
theorem checkEnds_h3 : true = Tryz.prog.looks [] := by kernel_rfl
theorem checkEnds_h4 : false = Rows.checkEndsRow.goesBy Tryz.prog := by kernel_rfl
theorem checkEnds_h5 : Tryz.prog.funcNamed "isogloss/isoglosslaw14.CheckEnds" = some 3 := by kernel_rfl

/-- The statement. -/
theorem checkEnds_holds : Rows.CheckEndsCardSaid :=
  Claim7.holds_tied_plain_at .later [] [.handle, .data] true (true, "4187dccc7af4f76cfa6df693b55ef19998e2ca40a45f637f38ff26a15339c62d") true
    checkEnds_over (fun _ h => by cases h) checkEnds_h1 (fun _ h => by cases h) checkEnds_row_tie rfl ⟨rfl, rfl⟩ checkEnds_h2 rfl
    (fun f fn hf hfn => by
      obtain rfl : f = 3 := Option.some.inj (checkEnds_h5.symm.trans hf) |>.symm
      obtain rfl : fn = Tryz.f3 := (Option.some.inj (Tryz.func3.symm.trans hfn)).symm
      exact ⟨checkEnds_h3, fun j t ht => by
        rw [Tryz.params3] at ht
        have hm : t ∈ [25, 27] := by simpa using Array.mem_of_getElem? ht
        have hall : ([25, 27].all fun u => !Tryz.prog.wantsStandIn u) = true := by kernel_rfl
        exact (show Tryz.prog.wantsStandIn t = false by simpa using List.all_eq_true.1 hall t hm)⟩)
    checkEnds_h4
end Go.Proofs.YtaalecdokidmnaaGreatDoor
