/- Contracts: what is no right word; numbers that are out of place. -/
import Derived.Test.YtedldoobmmhloaaL
import Derived.Test.YtedldoobmmhloaaH
namespace Go.Proofs.Ytedldoobmmhloaa
open Go.RowKit
set_option linter.unusedSimpArgs false
set_option linter.unusedVariables false

/-- A right word. -/
def RW (A : Int) (N : Nat) : Prop := 1 ≤ A ∧ A ≤ 128 ∧ N < 2 ^ A.toNat
end Go.Proofs.Ytedldoobmmhloaa
