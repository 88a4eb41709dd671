/- The walk of BvOps, all said. -/
import Derived.Test.YtjcmnhipiejnpaaR11
import Derived.Test.YtjcmnhipiejnpaaV2
import Derived.Test.YtjcmnhipiejnpaaM
import Derived.Test.YtjcmnhipiejnpaaP1
namespace Go.Proofs.Ytjcmnhipiejnpaa
open Go.RowKit
set_option linter.unusedSimpArgs false
set_option linter.unusedVariables false
theorem all_ops (op A l h A' l' h' i : Int) (_wo : (Lit.int .i64 op).wf = true) (_wA : (Lit.int .i64 A).wf = true) (w0 : (Lit.int .u64 l).wf = true) (w1 : (Lit.int .u64 h).wf = true) (_wA' : (Lit.int .i64 A').wf = true) (w2 : (Lit.int .u64 l').wf = true) (w3 : (Lit.int .u64 h').wf = true) (_w4 : (Lit.int .i64 i).wf = true) (w : World) :
    Calls Try.prog 3 #[.int .i64 op, .agg #[.int .i64 A, .int .u64 l, .int .u64 h], .agg #[.int .i64 A', .int .u64 l', .int .u64 h'], .int .i64 i] w fun e w' => e = .returned (.bool true) ∧ Below w.heap.size w w' := by
  obtain ⟨p0, p1⟩ := lit_u64 w0
  obtain ⟨q0, q1⟩ := lit_u64 w1
  obtain ⟨r0, r1⟩ := lit_u64 w2
  obtain ⟨s0, s1⟩ := lit_u64 w3
  have hN := num_lt p0 p1 q0 q1
  have hN' := num_lt r0 r1 s0 s1
  obtain ⟨c, c1, c2⟩ := right_pair (A := A) hN
  obtain ⟨b, er, b1, b2⟩ := bit_pair (A := A) (i := i) hN
  obtain ⟨K, x, y, es, n1, n2⟩ := new_pair (i := i) hN
  have hh := walk_ops (fun wx => known_any wx) op A A' i (num l h) (num l' h') b c er K x y es (fun o => two_pair hN hN') (fun o => one_pair hN) c1 c2 b1 b2 n1 n2 w
  rw [← num_lo (hi := h) p0 p1, ← num_hi p0 p1 q0, ← num_lo (hi := h') r0 r1, ← num_hi r0 r1 s0] at hh
  exact hh
end Go.Proofs.Ytjcmnhipiejnpaa
