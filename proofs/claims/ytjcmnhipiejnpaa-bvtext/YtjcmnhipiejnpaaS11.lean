/- The walk of BvText, all said. -/
import Derived.Test.YtjcmnhipiejnpaaR12
import Derived.Test.YtjcmnhipiejnpaaM
import Derived.Test.YtjcmnhipiejnpaaP1
namespace Go.Proofs.Ytjcmnhipiejnpaa
open Go.RowKit
set_option linter.unusedSimpArgs false
set_option linter.unusedVariables false
theorem all_text (A l h : Int) (s : ByteArray) (_wA : (Lit.int .i64 A).wf = true) (w0 : (Lit.int .u64 l).wf = true) (w1 : (Lit.int .u64 h).wf = true) (_ws : s.size ≤ maxLen) (w : World) :
    Calls Try.prog 5 #[.agg #[.int .i64 A, .int .u64 l, .int .u64 h], .string s] w fun e w' => e = .returned (.bool true) ∧ Below w.heap.size w w' := by
  obtain ⟨p0, p1⟩ := lit_u64 w0
  obtain ⟨q0, q1⟩ := lit_u64 w1
  have hN := num_lt p0 p1 q0 q1
  obtain ⟨c, st, r1, t1, t2, c0, c1⟩ := text_pair (A := A) hN
  have hh := walk_text (fun wx => known_any wx) A (num l h) s st c r1 t1 t2 c0 c1 (fun hs => parse_pair s hs) w
  rw [← num_lo (hi := h) p0 p1, ← num_hi p0 p1 q0] at hh
  exact hh
end Go.Proofs.Ytjcmnhipiejnpaa
