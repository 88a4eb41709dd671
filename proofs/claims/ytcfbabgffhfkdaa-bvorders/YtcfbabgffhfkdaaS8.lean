/- The walk of BvOrders, its examples known. -/
import Derived.Test.YtcfbabgffhfkdaaR8
import Derived.Test.YtcfbabgffhfkdaaM
namespace Go.Proofs.Ytcfbabgffhfkdaa
open Go.RowKit
set_option linter.unusedSimpArgs false
set_option linter.unusedVariables false
theorem all_orders (a0 a1 a2 a3 a4 a5 a6 : Int) (w0 : (Lit.int .i64 a0).wf = true) (w1 : (Lit.int .u64 a1).wf = true) (w2 : (Lit.int .u64 a2).wf = true) (w3 : (Lit.int .u64 a3).wf = true) (w4 : (Lit.int .u64 a4).wf = true) (w5 : (Lit.int .u64 a5).wf = true) (w6 : (Lit.int .u64 a6).wf = true) (w : World) :
    Calls Try.prog 8 #[.int .i64 a0, .int .u64 a1, .int .u64 a2, .int .u64 a3, .int .u64 a4, .int .u64 a5, .int .u64 a6] w fun e w' => e = .returned (.bool true) ∧ Below w.heap.size w w' :=
  walk_orders (fun wx => known_any wx) a0 a1 a2 a3 a4 a5 a6 w0 w1 w2 w3 w4 w5 w6 w
end Go.Proofs.Ytcfbabgffhfkdaa
