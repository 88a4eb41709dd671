/- Short words of these texts. -/
import Derived.Test.YtnflphhckgeneaaGreatProg
import Derived.WalkKit
import Derived.Handy
import Derived.WalkLawsBesides
namespace Go.Proofs.YtnflphhckgeneaaGreat
open Go.RowKit
/-- The call answers v, and what was there stays. -/
abbrev Rt (f : FuncId) (xs : Array Value) (w : World) (v : Value) : Prop := Calls Tryz.prog f xs w fun e w' => e = .returned v ∧ Below w.heap.size w w'
end Go.Proofs.YtnflphhckgeneaaGreat
