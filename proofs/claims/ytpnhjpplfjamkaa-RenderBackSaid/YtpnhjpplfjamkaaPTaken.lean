/-
  Package parse: the reader takes in a piece behind a language: which kind it is tried as. Package parse: the reader takes in a piece. Package parse: the reader takes in a piece, as the mathematics has it.
-/
import Derived.Test.YtpnhjpplfjamkaaPReader
/-! Package parse: the reader takes in a piece behind a language: which kind it is tried as. -/
namespace Go.Proofs.Ytpnhjpplfjamkaa
open Go Go.RowKit Go.Maps

end Go.Proofs.Ytpnhjpplfjamkaa

/-! Package parse: the reader takes in a piece. -/
namespace Go.Proofs.Ytpnhjpplfjamkaa
open Go Go.RowKit Go.Maps

/-! Together. -/
section
variable {w : World} {N B M : Nat} {st : PSt}
end
end Go.Proofs.Ytpnhjpplfjamkaa

/-! Package parse: the reader takes in a piece, as the mathematics has it. -/
namespace Go.Proofs.Ytpnhjpplfjamkaa
open Go Go.RowKit Go.Maps

section
variable {w : World} {N B M : Nat} {st : PSt}
end
end Go.Proofs.Ytpnhjpplfjamkaa
