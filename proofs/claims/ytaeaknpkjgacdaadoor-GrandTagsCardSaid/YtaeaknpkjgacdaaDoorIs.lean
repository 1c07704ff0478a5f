/-
  errors.Is, asked of one error by itself (what fault.alone hands it), at a target of type api.Errno.
-/
import Derived.Test.YtaeaknpkjgacdaaDoorFa
import Derived.Lib.Hide
namespace Go.Proofs.YtaeaknpkjgacdaaDoor
open Go Go.RowKit Go.Extern.Stop Go.Stop Go.Extern

theorem isComp : (Tryd.prog.info? 42).map (·.comparable) = some true := by kernel_rfl
theorem isComparable (w : World) : ((ReflectliteType.method fun t => do Rtype.noPackHeld "Comparable" t; (fun a => Value.bool a.comparable) <$> typeInfo t) #[.agg #[.pointer (some ⟨1, 42, none⟩)]]).run Tryd.prog w = .ok (.bool true) w := by kernel_rfl
end Go.Proofs.YtaeaknpkjgacdaaDoor
