/- The walk of BvShapes, its examples known. -/
import Derived.Test.YtcfbabgffhfkdaaR9
import Derived.Test.YtcfbabgffhfkdaaM
import Derived.Test.YtcfbabgffhfkdaaP1
namespace Go.Proofs.Ytcfbabgffhfkdaa
open Go.RowKit
set_option linter.unusedSimpArgs false
set_option linter.unusedVariables false
theorem all_shapes (A l h A' l' h' i j : Int) (_wA : (Lit.int .i64 A).wf = true) (w0 : (Lit.int .u64 l).wf = true) (w1 : (Lit.int .u64 h).wf = true) (_wA' : (Lit.int .i64 A').wf = true) (w2 : (Lit.int .u64 l').wf = true) (w3 : (Lit.int .u64 h').wf = true) (w4 : (Lit.int .i64 i).wf = true) (_w5 : (Lit.int .i64 j).wf = true) (w : World) :
    Calls Try.prog 4 #[.agg #[.int .i64 A, .int .u64 l, .int .u64 h], .agg #[.int .i64 A', .int .u64 l', .int .u64 h'], .int .i64 i, .int .i64 j] w fun e w' => e = .returned (.bool true) ∧ Below w.heap.size w w' := by
  obtain ⟨p0, p1⟩ := lit_u64 w0
  obtain ⟨q0, q1⟩ := lit_u64 w1
  obtain ⟨r0, r1⟩ := lit_u64 w2
  obtain ⟨s0, s1⟩ := lit_u64 w3
  obtain ⟨-, t1⟩ := lit_i64 w4
  have hh := walk_shapes (fun wx => known_any wx) A A' i j (num l h) (num l' h') (num_lt p0 p1 q0 q1) (num_lt r0 r1 s0 s1) (by omega) w
  rw [← num_lo (hi := h) p0 p1, ← num_hi p0 p1 q0, ← num_lo (hi := h') r0 r1, ← num_hi r0 r1 s0] at hh
  exact hh
end Go.Proofs.Ytcfbabgffhfkdaa
