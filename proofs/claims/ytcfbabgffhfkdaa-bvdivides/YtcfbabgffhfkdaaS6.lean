/- The walk of BvDivides, its examples known. -/
import Derived.Test.YtcfbabgffhfkdaaR6
import Derived.Test.YtcfbabgffhfkdaaM
namespace Go.Proofs.Ytcfbabgffhfkdaa
open Go.RowKit
set_option linter.unusedSimpArgs false
set_option linter.unusedVariables false
theorem all_divides (a0 a1 a2 a3 a4 : Int) (w0 : (Lit.int .i64 a0).wf = true) (w1 : (Lit.int .u64 a1).wf = true) (w2 : (Lit.int .u64 a2).wf = true) (w3 : (Lit.int .u64 a3).wf = true) (w4 : (Lit.int .u64 a4).wf = true) (w : World) :
    Calls Try.prog 6 #[.int .i64 a0, .int .u64 a1, .int .u64 a2, .int .u64 a3, .int .u64 a4] w fun e w' => e = .returned (.bool true) ∧ Below w.heap.size w w' :=
  walk_divides (fun wx => known_any wx) a0 a1 a2 a3 a4 w0 w1 w2 w3 w4 w
end Go.Proofs.Ytcfbabgffhfkdaa
