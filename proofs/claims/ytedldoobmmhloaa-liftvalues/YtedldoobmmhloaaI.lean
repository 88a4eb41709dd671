/- Contracts: quotients and rests. -/
import Derived.Test.YtedldoobmmhloaaH
import Derived.Test.YtedldoobmmhloaaC
namespace Go.Proofs.Ytedldoobmmhloaa
open Go.RowKit
set_option linter.unusedSimpArgs false
set_option linter.unusedVariables false

def udiv (W n m : Nat) : Nat := if m = 0 then 2 ^ W - 1 else n / m
def urem (n m : Nat) : Nat := if m = 0 then n else n % m
end Go.Proofs.Ytedldoobmmhloaa
