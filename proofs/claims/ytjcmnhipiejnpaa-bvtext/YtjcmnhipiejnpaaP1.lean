/- A word out of any numbers: what the laws' walks begin with. -/
import Derived.Test.YtjcmnhipiejnpaaP0
import Derived.Test.YtjcmnhipiejnpaaG
namespace Go.Proofs.Ytjcmnhipiejnpaa
open Go.RowKit
set_option linter.unusedSimpArgs false
set_option linter.unusedVariables false

/-- The word's number. -/
def wnum (v lo hi : Int) : Nat := num lo hi % 2 ^ wdt v
theorem word_of {v lo hi : Int} (w0 : (Lit.int .i64 v).wf = true) (w1 : (Lit.int .u64 lo).wf = true) (w2 : (Lit.int .u64 hi).wf = true) :
    1 ≤ wdt v ∧ wdt v ≤ 128 ∧ wnum v lo hi < 2 ^ wdt v ∧ Hid (∀ wx, Calls Try.prog 33 #[.int .i64 v, .int .u64 lo, .int .u64 hi] wx fun e w' => e = .returned (.agg #[.int .i64 ((wdt v : Nat) : Int), .int .u64 (LO (wnum v lo hi)), .int .u64 (HI (wnum v lo hi))]) ∧ Below wx.heap.size wx w') := by
  obtain ⟨p0, p1⟩ := lit_i64 w0
  obtain ⟨q0, q1⟩ := lit_u64 w1
  obtain ⟨r0, r1⟩ := lit_u64 w2
  have HL := num_lo (hi := hi) q0 q1
  have HH := num_hi q0 q1 r0
  have HN := num_lt q0 q1 r0 r1
  exact ⟨by unfold wdt; omega, wdt_le v, mod_lt_W _ _, fun wx => lawword_any HN HL HH p0 p1 wx⟩
end Go.Proofs.Ytjcmnhipiejnpaa
