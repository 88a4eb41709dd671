/- Contracts: repetition; operators on four bits; texts that the examples name; refusals that they name. -/
import Derived.Test.YtedldoobmmhloaaK
namespace Go.Proofs.Ytedldoobmmhloaa
open Go.RowKit
set_option linter.unusedSimpArgs false
set_option linter.unusedVariables false

/-- The width of k words of W bits. -/
def wk (W k : Nat) : Nat := W * k
/-- k words n of V bits above one another. -/
def rep (V n : Nat) : Nat → Nat
  | 0 => 0
  | k + 1 => cat (rep V n k) V n
end Go.Proofs.Ytedldoobmmhloaa
