/- Contracts: concatenation, extraction, extension, rotation, a bit, a new word, complement and negation. -/
import Derived.Test.YtedldoobmmhloaaC
namespace Go.Proofs.Ytedldoobmmhloaa
open Go.RowKit
set_option linter.unusedSimpArgs false
set_option linter.unusedVariables false

end Go.Proofs.Ytedldoobmmhloaa
