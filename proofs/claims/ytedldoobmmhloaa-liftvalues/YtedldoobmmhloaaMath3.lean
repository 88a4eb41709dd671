/- Plain facts on long division: no Go in sight. -/
import Derived.Test.YtedldoobmmhloaaMath2
namespace Go.Proofs.Ytedldoobmmhloaa

end Go.Proofs.Ytedldoobmmhloaa
