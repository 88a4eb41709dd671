/- Contracts: bit by bit, sums by operator, signs, shifts, comparisons. -/
import Derived.Test.YtedldoobmmhloaaB
namespace Go.Proofs.Ytedldoobmmhloaa
open Go.RowKit
set_option linter.unusedSimpArgs false
set_option linter.unusedVariables false

end Go.Proofs.Ytedldoobmmhloaa
