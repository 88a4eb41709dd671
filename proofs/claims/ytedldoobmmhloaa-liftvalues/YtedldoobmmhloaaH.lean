/- Contracts: long division. -/
import Derived.Test.YtedldoobmmhloaaB
import Derived.Test.YtedldoobmmhloaaMath3
namespace Go.Proofs.Ytedldoobmmhloaa
open Go.RowKit
set_option linter.unusedSimpArgs false
set_option linter.unusedVariables false

/-- Two numbers alike, as a Bool that no simp set opens. -/
def eqB (n m : Nat) : Bool := decide (n = m)
theorem halves {n m : Nat} (h : LO n = LO m) (h2 : HI n = HI m) : n = m := by
  unfold LO at h; unfold HI at h2; omega
theorem eq_w (W n m : Nat) (w : World) : (binOp .eql 25 (.agg #[.int .i64 W, .int .u64 (LO (n)), .int .u64 (HI (n))]) (.agg #[.int .i64 W, .int .u64 (LO (m)), .int .u64 (HI (m))])).run Try.prog w = .ok (.bool (eqB n m)) w := by
  simp only [eqB]
  by_cases h : n = m
  · subst h; simp [go_sem]
  · have e : decide (n = m) = false := by simp [h]
    rw [e]
    by_cases h1 : LO n = LO m
    · have h2 : ¬ HI n = HI m := fun h2 => h (halves h1 h2)
      simp [go_sem, h1, h2]
    · simp [go_sem, h1]
theorem eqB_no {n m : Nat} (h : n ≠ m) : eqB n m = false := by simp [eqB, h]
theorem eqB_yes {n m : Nat} (h : n = m) : eqB n m = true := by simp [eqB, h]

def dbl (W n : Nat) : Nat := n * 2 ^ 1 % 2 ^ W
end Go.Proofs.Ytedldoobmmhloaa
