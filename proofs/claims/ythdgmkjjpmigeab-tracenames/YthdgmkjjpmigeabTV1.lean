/- Contracts (the document's clauses): True, All, Can. -/
import Derived.Test.YthdgmkjjpmigeabTS1
namespace Go.Proofs.Ythdgmkjjpmigeab
open Go.RowKit
set_option linter.unusedSimpArgs false
set_option linter.unusedVariables false

theorem below_drewN {B : Nat} {w wr : World} (h : Below B w wr) (n : Nat) : Below B w (wr.drewN n) := ⟨h.os, h.tape, h.output, h.size, h.block⟩
theorem and_one (l : Nat) (h : l < 1000000) : bits .and .i64 (l : Int) 1 = ((l % 2 : Nat) : Int) := by
  have h1 : bits .and .i64 (l : Int) 1 = IntKind.i64.wrap (((BitVec.ofInt 64 (l : Int) &&& BitVec.ofInt 64 1).toNat : Nat) : Int) := rfl
  rw [h1, IntKind.wrap_i64, BitVec.toNat_and, show (BitVec.ofInt 64 1).toNat = 1 from rfl, Nat.and_one_is_mod, BitVec.toNat_ofInt]
  have e64 : ((2 ^ 64 : Nat) : Int) = 18446744073709551616 := rfl
  rw [e64]
  omega
/-- The j-th bit of n. -/
def bt (n j : Nat) : Bool := bits .and .i64 ((n : Int) / 2 ^ min j 64) 1 == 1
theorem bt_eq {n : Nat} (hn : n < 1000000) (j : Nat) : bt n j = n.testBit j := by
  unfold bt
  have h1 : ((n : Int) / 2 ^ min j 64) = ((n / 2 ^ min j 64 : Nat) : Int) := by simp
  have h2 : n / 2 ^ min j 64 < 1000000 := Nat.lt_of_le_of_lt (Nat.div_le_self _ _) hn
  rw [h1, and_one _ h2, Nat.testBit_eq_decide_div_mod_eq]
  have h3 : n / 2 ^ min j 64 = n / 2 ^ j := by
    by_cases hj : j ≤ 64
    · rw [Nat.min_eq_left hj]
    · rw [Nat.min_eq_right (by omega), Nat.div_eq_of_lt (Nat.lt_trans hn (by decide)), Nat.div_eq_of_lt (Nat.lt_of_lt_of_le (Nat.lt_trans hn (show 1000000 < 2 ^ 64 by decide)) (Nat.pow_le_pow_right (by decide) (by omega)))]
  rw [h3]
  rcases Nat.mod_two_eq_zero_or_one (n / 2 ^ j) with e | e <;> rw [e] <;> rfl
/-- Is a clause's literal true in the n-th assignment? -/
def ltT (n : Nat) (x : Int) : Bool := bt n (x.natAbs - 1) == decide (0 < x)
def trF (n : Nat) (c : List Int) : Bool := c.any (ltT n)
def okC (c : List Int) : Prop := ∀ x ∈ c, x ≠ 0 ∧ -100000 ≤ x ∧ x ≤ 100000
def allF (n : Nat) (C : List (List Int)) : Bool := C.all (trF n)
def canF (m : Nat) (C : List (List Int)) : Bool := (List.range (2 ^ m)).any fun n => allF n C
end Go.Proofs.Ythdgmkjjpmigeab
