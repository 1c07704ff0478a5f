/-
  errors.Is, asked of one error by itself (what fault.alone hands it), at a target of type api.Errno.
-/
import Derived.Test.YtbpihlndojnlcaaDoorFa
import Derived.Lib.Hide
namespace Go.Proofs.YtbpihlndojnlcaaDoor
open Go Go.RowKit Go.Extern.Stop Go.Stop Go.Extern

/-- Two numbers that are errors are one error just if they are one number. -/
theorem eqIn_errno (d : Nat) (w : World) (i : TypeInfo) (hinfo : Tryd.prog.info? 24 = some i) (hcomp : i.comparable = true) (a b : Int) :
    (Op.equalIn (d + 2) 29 (.iface 24 (.int .i64 a)) (.iface 24 (.int .i64 b))).run Tryd.prog w = .ok (a == b) w := by
  simp [Op.equalIn, run_underlying Tryd.underlying29, run_underlying Tryd.underlying24, typeInfo, hinfo, hcomp]
theorem isComp : (Tryd.prog.info? 24).map (·.comparable) = some true := by kernel_rfl
theorem eq_errno (a b : Int) (w : World) :
    (binOp .eql 29 (.iface 24 (.int .i64 a)) (.iface 24 (.int .i64 b))).run Tryd.prog w = .ok (.bool (a == b)) w := by
  obtain ⟨i, hi, hcmp⟩ := Option.map_eq_some_iff.1 isComp
  simp only [binOp]
  simp [Op.equal, Op.maxDepth, eqIn_errno 9998 w i hi hcmp a b]
theorem isTypeOf (v : Value) (w : World) : (ReflectliteType.typeOf #[.iface 24 v]).run Tryd.prog w = .ok (.iface 101 (.agg #[.pointer (some ⟨4, 24, none⟩)])) w := by kernel_rfl
theorem isComparable (w : World) : ((ReflectliteType.method fun t => do Rtype.noPackHeld "Comparable" t; (fun a => Value.bool a.comparable) <$> typeInfo t) #[.agg #[.pointer (some ⟨4, 24, none⟩)]]).run Tryd.prog w = .ok (.bool true) w := by kernel_rfl
theorem isMComparable (v : Value) (w : World) : (Go.method 255 101 v "Comparable").run Tryd.prog w = .ok (93, v) w := by kernel_rfl

set_option maxHeartbeats 1000000 in
theorem is_errno (j k : Int) (w : World) :
    Calls Tryd.prog 39 #[.iface 24 (.int .i64 j), .iface 24 (.int .i64 k)] w fun ev w' => ev = .returned (.bool (decide (j = k))) ∧ w = w' := by
  have h8 := @run_callFunc_extern Tryd.prog 48 _ (ReflectliteType.typeOf) Tryd.func48 (by kernel_rfl) (by kernel_rfl) (by kernel_rfl) (by kernel_rfl)
  have h32 := @run_callFunc_extern Tryd.prog 93 _ (ReflectliteType.method fun t => do Rtype.noPackHeld "Comparable" t; pure (.bool (← typeInfo t).comparable)) Tryd.func93 (by kernel_rfl) (by kernel_rfl) (by kernel_rfl) (by kernel_rfl)
  have tT := isTypeOf
  have cT := isComparable
  have mR := isMComparable
  have n1 := erNoIs
  have n2 := erNoU
  have n3 := erNoUs
  by_cases hjk : j = k
  · subst hjk
    have heq : ∀ w, (binOp .eql 29 (.iface 24 (.int .i64 j)) (.iface 24 (.int .i64 j))).run Tryd.prog w = .ok (.bool true) w := fun w => by rw [eq_errno]; simp
    go_enter Tryd.func39, Tryd.ntmps39
    go_wp2
    refine wp_loop_rounds 1 ?_
    rw [rounds_succ]
    go_wp2
    go_ret
    exact ⟨by simp, rfl⟩
  · have heq : ∀ w, (binOp .eql 29 (.iface 24 (.int .i64 j)) (.iface 24 (.int .i64 k))).run Tryd.prog w = .ok (.bool false) w := fun w => by rw [eq_errno]; simp [hjk]
    have hd : decide (j = k) = false := by simp [hjk]
    rw [hd]
    have H := Lib.hid hjk
    clear hjk hd
    go_enter Tryd.func39, Tryd.ntmps39
    go_wp2
    refine wp_loop_rounds 1 ?_
    rw [rounds_succ]
    go_wp2
    go_ret
    exact ⟨rfl, rfl⟩

theorem eq_shell (x : Value) (k : Int) (w : World) :
    (binOp .eql 29 (.iface 95 x) (.iface 24 (.int .i64 k))).run Tryd.prog w = .ok (.bool false) w := run_eql_iface_types _ _ _ _ Tryd.underlying29 (by decide) w

set_option maxHeartbeats 1000000 in
theorem is_miss_shape (x : Value) (hx : ∀ (t : Value) (w : World), Calls Tryd.prog 90 #[.agg #[x], t] w fun e w' => e = .returned (.bool false) ∧ Below w.heap.size w w') (k : Int) (w : World) :
    Calls Tryd.prog 39 #[.iface 95 (.agg #[x]), .iface 24 (.int .i64 k)] w fun ev w' => ev = .returned (.bool false) ∧ Below w.heap.size w w' := by
  have h8 := @run_callFunc_extern Tryd.prog 48 _ (ReflectliteType.typeOf) Tryd.func48 (by kernel_rfl) (by kernel_rfl) (by kernel_rfl) (by kernel_rfl)
  have h32 := @run_callFunc_extern Tryd.prog 93 _ (ReflectliteType.method fun t => do Rtype.noPackHeld "Comparable" t; pure (.bool (← typeInfo t).comparable)) Tryd.func93 (by kernel_rfl) (by kernel_rfl) (by kernel_rfl) (by kernel_rfl)
  have tT := isTypeOf
  have cT := isComparable
  have mR := isMComparable
  have q1 := shIs
  have q2 := shNoU
  have q3 := shNoUs
  have q4 := shIsM
  have heq := eq_shell
  have HX := Lib.hid hx
  clear hx
  go_enter Tryd.func39, Tryd.ntmps39
  go_wp2
  refine wp_loop_rounds 1 ?_
  rw [rounds_succ]
  go_wp2_with fail
  refine (HX.out _ _).mono ?_
  rintro e w' ⟨rfl, hb⟩
  go_wp2
  refine bodyPost_ret (v := .bool false) ?_ rfl ?_
  · simp [results, Tryd.results39, go_sem]
  exact ⟨rfl, hb⟩
end Go.Proofs.YtbpihlndojnlcaaDoor
