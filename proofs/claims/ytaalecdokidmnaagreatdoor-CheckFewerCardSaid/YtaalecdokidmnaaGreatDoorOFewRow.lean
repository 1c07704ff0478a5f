/-
  CheckFewer: its statement (the tied card), for every input. Condition: the listed variables are as the program's text lays them (tied by the card).
-/
import Derived.Test.YtaalecdokidmnaaGreatDoorRows
import Derived.Test.YtaalecdokidmnaaGreatDoorOFewLaw
import Derived.Test.YtaalecdokidmnaaGreatDoorZArgs
import Derived.Test.YtaalecdokidmnaaGreatDoorRowKits
import Derived.Test.YtaalecdokidmnaaGreatDoorCards
import Derived.Test.YtaalecdokidmnaaGreatDoorTie
import Derived.ProofKit
import Derived.OpenShut
import Derived.ChangeMaps5
import Derived.LaidMore
import Derived.Lay
import Derived.SevenTiedAt
import Derived.Stop.Joined
namespace Go.Proofs.YtaalecdokidmnaaGreatDoor
open Go.ChangeShapes Go.WideShapes Go.ChangeAt Go.ChangeMaps Go.RowKit

theorem checkFewer_own : ownKnob Tryz.prog.godebug = none := by kernel_rfl

set_option maxRecDepth 100000 in
theorem checkFewer_lifted (os : Os) (started : os.Started) (H : Type) (enc : TypeId × Value → H) :
    ReturnsInHanded {} Tryz.checked os 4 .any (fun w args => (Rows.checkFewerSpec.pre enc Tryz.prog Tryz.f4 [] false w args ∧ laidMetH Tryz.prog laid7 w) ∧ sizedMet enc Tryz.prog Tryz.f4 (OpenSpec.ofChange Rows.checkFewerSpec) false w args)
      (Rows.checkFewerSpec.post enc Tryz.prog Tryz.f4 false true false false) := by
  refine returnsInHanded_of_change_and (C := Tryz.checked) (X := fun w _ => laidMetH Tryz.prog laid7 w) (fun _ _ _ hh h => h.of_heap hh) checkFewer_own started (by kernel_rfl) Tryz.func4
    (ChangeSpec.witness_at (enc := enc) (C := Tryz.checked) (os := os) (X := fun w _ => laidMetH Tryz.prog laid7 w) false (laidWorld7 os) #[.agg #[.slice none 0 0, .slice none 0 0, .slice none 0 0, .slice none 0 0, .int .i64 0, .int .i64 0, .int .i64 0], .int .i64 0] 8 rfl (by kernel_rfl) (by kernel_rfl) (by kernel_rfl) (by kernel_rfl) (by kernel_rfl) (laidWorld7_met os _)) ?_
  intro W base args ds gs before hval0 hW _ _ hL _
  have hval : ∀ (j : Nat) t v, Tryz.f4.params[j]? = some t → args[j]? = some v → Value.okWide Tryz.prog W .any base t v := hval0
  have hW' := hW
  obtain ⟨p, q, hA0, hV, rfl, hfz, hnd⟩ := hW
  have hA : DataW.TrodAll enc Tryz.prog W 0 (fun _ => true) true Tryz.f4.params.toList args.toList ds p := hA0
  rw [Tryz.params4] at hA hval
  obtain ⟨v0, vs0, d0, ds0, p0, q0, hargs, rfl, rfl, h0, r0⟩ := trodAll_cons hA
  obtain ⟨v1, vs1, d1, ds1, p1, q1, rfl, rfl, rfl, h1, r1⟩ := trodAll_cons r0
  obtain ⟨rfl, rfl, rfl⟩ := trodAll_nil r1
  obtain rfl : args = #[v0, v1] := by cases args; simp_all
  obtain ⟨rfl, rfl⟩ := trodVars_none hV
  have k0 := h0
  have lt0 : ∀ x ∈ p0, x.block < W.heap.size := by obtain ⟨m, hm⟩ := k0; exact DataW.trod_lt m _ _ _ hm
  obtain ⟨S0, va0, vl0, vr0, vm0, rfl, w0⟩ := open_seed13 (hval 0 25 v0 rfl rfl) h0
  have k1 := h1
  have lt1 : ∀ x ∈ p1, x.block < W.heap.size := by obtain ⟨m, hm⟩ := k1; exact DataW.trod_lt m _ _ _ hm
  obtain ⟨a1, rfl, _, _, _⟩ := open_int Tryz.underlying3 (hval 1 3 v1 rfl rfl) h1
  clear hA0 hval0
  refine (checkFewer_law S0 va0 vl0 vr0 vm0 a1 W w0 (zLaid_of hL)).mono fun e W' ⟨he, bel⟩ => ?_
  subst he
  exact ⟨_, rfl, _, _, _, [], _, [], hW', trodAll_mk1 (shut_bool Tryz.underlying4 _), (trodAll_cons_mk (Below.trod laidOutN (by kernel_rfl) (of_decide_eq_true (by kernel_rfl)) k0 bel lt0) (trodAll_cons_mk (Below.trod laidOutN (by kernel_rfl) (of_decide_eq_true (by kernel_rfl)) k1 bel lt1) trodAll_mk0)), rfl, bel.frame _, fun h => by cases h⟩

theorem checkFewer_andJ {a b : Bool} (h1 : a = true) (h2 : b = true) : (a && b) = true := by rw [h1, h2]; rfl
theorem checkFewer_j0 : (Rows.checkFewerRow.wf (OpenSpec.ofChange Rows.checkFewerSpec)) = true := by kernel_rfl
theorem checkFewer_j1 : (laidOutB Tryz.prog) = true := by kernel_rfl
theorem checkFewer_j2 : (mapsRowed Tryz.prog) = true := by kernel_rfl
theorem checkFewer_j3 : (Tryz.f4.params.all (Tryz.prog.readableRec ·)) = true := by kernel_rfl
theorem checkFewer_j4 : (namedTie Tryz.prog Rows.checkFewerRow.named Rows.checkFewerSpec.vars) = true := by kernel_rfl
theorem checkFewer_j5 : ((Rows.checkFewerRow.stops == [])) = true := by kernel_rfl
theorem checkFewer_j6 : ((Tryz.prog.stops == [])) = true := by kernel_rfl
theorem checkFewer_j7 : ((Rows.checkFewerRow.knobs == [])) = true := by kernel_rfl
theorem checkFewer_j8 : ((Tryz.prog.stopKnobs == [])) = true := by kernel_rfl
theorem checkFewer_j9 : ((Rows.checkFewerRow.inPlace == Tryz.prog.inPlace 4)) = true := by kernel_rfl
theorem checkFewer_j10 : ((Rows.checkFewerRow.unfollowed == Tryz.prog.unfollowed 4)) = true := by kernel_rfl
theorem checkFewer_j11 : ((Rows.checkFewerRow.recurses == Tryz.prog.recurses 4)) = true := by kernel_rfl
theorem checkFewer_j12 : ((Rows.checkFewerRow.named == Tryz.prog.varsNamed 4)) = true := by kernel_rfl
theorem checkFewer_j13 : ((Rows.checkFewerRow.maps == (Tryz.f4.params.toList ++ Rows.checkFewerSpec.plain.varTypes Tryz.prog).any (Tryz.prog.mapsRec ·))) = true := by kernel_rfl
theorem checkFewer_j14 : ((Rows.checkFewerRow.ifaces == (Tryz.f4.params.toList ++ Rows.checkFewerSpec.plain.varTypes Tryz.prog).any (Tryz.prog.ifacesRec ·))) = true := by kernel_rfl
theorem checkFewer_j15 : ((Rows.checkFewerRow.mapsOut == Tryz.prog.mapsAmong Tryz.f4.resultTypes.toList)) = true := by kernel_rfl
theorem checkFewer_j16 : ((Rows.checkFewerRow.loops == (Tryz.f4.params.toList ++ Rows.checkFewerSpec.plain.varTypes Tryz.prog).any (Tryz.prog.loopsFrom ·))) = true := by kernel_rfl
theorem checkFewer_j17 : ((Rows.checkFewerRow.wideKeys == (Tryz.f4.params.toList ++ Rows.checkFewerSpec.plain.varTypes Tryz.prog ++ Tryz.f4.resultTypes.toList).any (Tryz.prog.wideKeysFrom ·))) = true := by kernel_rfl
theorem checkFewer_j18 : (Rows.checkFewerSpec.vars.all (Tryz.prog.varReadable ·)) = true := by kernel_rfl
theorem checkFewer_j19 : (Tryz.f4.resultTypes.all (fun t => Tryz.prog.readableRec t && decide (t < Tryz.prog.types.size))) = true := by kernel_rfl
theorem checkFewer_j20 : ((Rows.checkFewerRow.ifacesOut == Tryz.f4.resultTypes.toList.any (Tryz.prog.ifacesRec ·))) = true := by kernel_rfl
theorem checkFewer_j21 : ((Rows.checkFewerRow.loopsOut == Tryz.f4.resultTypes.toList.any (Tryz.prog.loopsFrom ·))) = true := by kernel_rfl
theorem checkFewer_j22 : ((Rows.checkFewerRow.plainKeys == Tryz.prog.plainKeys)) = true := by kernel_rfl
theorem checkFewer_j23 : (Rows.checkFewerRow.shortTexts.isNone) = true := by kernel_rfl
theorem checkFewer_j24 : (Tryz.prog.stopsHeard) = true := by kernel_rfl
theorem checkFewer_j25 : (Tryz.prog.mayEnter) = true := by kernel_rfl
theorem checkFewer_j26 : ((Rows.checkFewerRow.lifted == Tryz.prog.liftsFinal)) = true := by kernel_rfl
theorem checkFewer_j27 : ((Tryz.prog.make == some Rows.checkFewerRow.make)) = true := by kernel_rfl
theorem checkFewer_j28 : ((Rows.checkFewerRow.kinds == (if Rows.checkFewerRow.domain.isEmpty then [] else Tryz.f4.params.toList.map fun t => match Tryz.prog.underlying t with | some (.int k) => some k | _ => none))) = true := by kernel_rfl
theorem checkFewer_j29 : ((Rows.checkFewerRow.pinned == Rows.checkFewerRow.pinnedBy)) = true := by kernel_rfl
theorem checkFewer_j30 : ((Rows.checkFewerRow.veiled == (Tryz.f4.params.toList ++ Rows.checkFewerSpec.plain.varTypes Tryz.prog ++ Tryz.f4.resultTypes.toList).any (Tryz.prog.veiledRec ·))) = true := by kernel_rfl
theorem checkFewer_j31 : (Rows.checkFewerRow.veiledFits Tryz.prog Tryz.f4.params.toList (Tryz.f4.params.toList ++ Rows.checkFewerSpec.plain.varTypes Tryz.prog ++ Tryz.f4.resultTypes.toList)) = true := by kernel_rfl
set_option maxRecDepth 100000 in
theorem checkFewer_joined : joinedFacts Tryz.prog 4 Tryz.f4 Rows.checkFewerSpec Rows.checkFewerRow = true := by
  unfold joinedFacts
  exact (checkFewer_andJ (checkFewer_andJ (checkFewer_andJ (checkFewer_andJ (checkFewer_andJ (checkFewer_andJ (checkFewer_andJ (checkFewer_andJ (checkFewer_andJ (checkFewer_andJ (checkFewer_andJ (checkFewer_andJ (checkFewer_andJ (checkFewer_andJ (checkFewer_andJ (checkFewer_andJ (checkFewer_andJ (checkFewer_andJ (checkFewer_andJ (checkFewer_andJ (checkFewer_andJ (checkFewer_andJ (checkFewer_andJ (checkFewer_andJ (checkFewer_andJ (checkFewer_andJ (checkFewer_andJ (checkFewer_andJ (checkFewer_andJ (checkFewer_andJ (checkFewer_andJ checkFewer_j0 checkFewer_j1) checkFewer_j2) checkFewer_j3) checkFewer_j4) checkFewer_j5) checkFewer_j6) checkFewer_j7) checkFewer_j8) checkFewer_j9) checkFewer_j10) checkFewer_j11) checkFewer_j12) checkFewer_j13) checkFewer_j14) checkFewer_j15) checkFewer_j16) checkFewer_j17) checkFewer_j18) checkFewer_j19) checkFewer_j20) checkFewer_j21) checkFewer_j22) checkFewer_j23) checkFewer_j24) checkFewer_j25) checkFewer_j26) checkFewer_j27) checkFewer_j28) checkFewer_j29) checkFewer_j30) checkFewer_j31)

theorem checkFewer_over : Rows.CheckFewerSaid :=
  OpenClaim.holds_of_wide 4 Tryz.f4 rfl rfl rfl rfl rfl rfl rfl ⟨rfl, rfl, rfl, rfl, rfl⟩ rfl rfl rfl rfl rfl (by kernel_rfl) Tryz.func4 checkFewer_joined
    (of_decide_eq_true (by kernel_rfl)) (by unfold Func.isWrapper; rw [if_neg (of_decide_eq_false (by kernel_rfl))]; exact ⟨rfl, rfl⟩)
    (fun os started H enc _ => checkFewer_lifted os started H enc)

theorem checkFewer_h1 : Rows.checkFewerRow.wfByText (OpenSpec.ofChange Rows.checkFewerSpec) = true := by kernel_rfl
theorem checkFewer_h2 : Tryz.prog.mainIs = some (((true, "4187dccc7af4f76cfa6df693b55ef19998e2ca40a45f637f38ff26a15339c62d") : Bool × String).1, ((true, "4187dccc7af4f76cfa6df693b55ef19998e2ca40a45f637f38ff26a15339c62d") : Bool × String).2.toList) := by kernel_rfl
theorem checkFewer_h3 : true = Tryz.prog.looks [] := by kernel_rfl
theorem checkFewer_h4 : false = Rows.checkFewerRow.goesBy Tryz.prog := by kernel_rfl
theorem checkFewer_h5 : Tryz.prog.funcNamed "isogloss/isoglosslaw14.CheckFewer" = some 4 := by kernel_rfl

/-- The statement. -/
theorem checkFewer_holds : Rows.CheckFewerCardSaid :=
  Claim7.holds_tied_plain_at .later [] [.handle, .data] true (true, "4187dccc7af4f76cfa6df693b55ef19998e2ca40a45f637f38ff26a15339c62d") true
    checkFewer_over (fun _ h => by cases h) checkFewer_h1 (fun _ h => by cases h) checkFewer_row_tie rfl ⟨rfl, rfl⟩ checkFewer_h2 rfl
    (fun f fn hf hfn => by
      obtain rfl : f = 4 := Option.some.inj (checkFewer_h5.symm.trans hf) |>.symm
      obtain rfl : fn = Tryz.f4 := (Option.some.inj (Tryz.func4.symm.trans hfn)).symm
      exact ⟨checkFewer_h3, fun j t ht => by
        rw [Tryz.params4] at ht
        have hm : t ∈ [25, 3] := by simpa using Array.mem_of_getElem? ht
        have hall : ([25, 3].all fun u => !Tryz.prog.wantsStandIn u) = true := by kernel_rfl
        exact (show Tryz.prog.wantsStandIn t = false by simpa using List.all_eq_true.1 hall t hm)⟩)
    checkFewer_h4
end Go.Proofs.YtaalecdokidmnaaGreatDoor
