import Derived.Test.YtedldoobmmhloaaProg
import Derived.WalkKit
import Derived.Handy
import Derived.WalkLawsBesides
namespace Go.Proofs.Ytedldoobmmhloaa
open Go.RowKit
abbrev Rt (f : FuncId) (xs : Array Value) (w : World) (v : Value) : Prop := Calls Try.prog f xs w fun e w' => e = .returned v ∧ Below w.heap.size w w'
end Go.Proofs.Ytedldoobmmhloaa
