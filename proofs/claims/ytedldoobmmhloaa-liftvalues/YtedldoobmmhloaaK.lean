/- Contracts: operators on two words that answer a word, as the program's face tells them, and as the laws ask for them. -/
import Derived.Test.YtedldoobmmhloaaI
import Derived.Test.YtedldoobmmhloaaE
namespace Go.Proofs.Ytedldoobmmhloaa
open Go.RowKit
set_option linter.unusedSimpArgs false
set_option linter.unusedVariables false

end Go.Proofs.Ytedldoobmmhloaa
