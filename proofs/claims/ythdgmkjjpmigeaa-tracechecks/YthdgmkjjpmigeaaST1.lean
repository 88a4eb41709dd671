/- Contracts (store): numbers of literals; lists of numbers read. -/
import Derived.Test.YthdgmkjjpmigeaaST0
import Derived.WalkSmall
import Derived.Lib.MinMax
namespace Go.Proofs.Ythdgmkjjpmigeaa
open Go.RowKit
set_option linter.unusedSimpArgs false
set_option linter.unusedVariables false

/-- A literal's number. -/
def cd (l : Int) : Nat := if l < 0 then 2 * (-l).toNat + 1 else 2 * l.toNat
/-- It is a literal. -/
def isL (l : Int) : Bool := decide (l ≠ 0) && decide (-65536 ≤ l) && decide (l ≤ 65536)
def sm (l : Int) : Prop := -65536 ≤ l ∧ l ≤ 65536
theorem isL_sm {l : Int} (h : isL l = true) : sm l := by
  unfold isL at h
  simp at h
  exact ⟨h.1.2, h.2⟩
theorem isL_ne {l : Int} (h : isL l = true) : l ≠ 0 := by
  unfold isL at h
  simp at h
  exact h.1.1
theorem sm_neg {l : Int} (h : sm l) : sm (-l) := by unfold sm at *; omega
theorem isL_neg {l : Int} (h : isL l = true) : isL (-l) = true := by
  unfold isL at *
  simp at *
  omega
theorem cd_le {l : Int} (h : sm l) : cd l ≤ 131073 := by unfold sm at h; unfold cd; split <;> omega
theorem cd_inj {l m : Int} (h : cd l = cd m) : l = m := by
  unfold cd at h
  split at h <;> split at h <;> omega
theorem orN (n : Nat) : n ||| 1 = 2 * (n / 2) + 1 := by
  have h1 : (n ||| 1) / 2 = n / 2 := by rw [Nat.or_div_two]; simp
  have h2 : (n ||| 1) % 2 = 1 := by
    have h3 : (n ||| 1) % 2 = (n % 2 ||| 1 % 2) := by
      have := @Nat.or_mod_two_pow n 1 1
      simpa using this
    rw [h3]
    rcases Nat.mod_two_eq_zero_or_one n with e | e <;> rw [e] <;> rfl
  omega
theorem or_one (n : Nat) (h : n < 1000000) : bits .or .u64 ((n : Int) * 2) 1 = (n : Int) * 2 + 1 := by
  have h0 : bits .or .u64 ((n : Int) * 2) 1 = IntKind.u64.wrap (((BitVec.ofInt 64 ((n : Int) * 2) ||| BitVec.ofInt 64 1).toNat : Nat) : Int) := rfl
  rw [h0, BitVec.toNat_or, show (BitVec.ofInt 64 1).toNat = 1 from rfl, BitVec.toNat_ofInt]
  have h1 : ((n : Int) * 2 % ((2 ^ 64 : Nat) : Int)).toNat = 2 * n := by omega
  rw [h1, orN, show 2 * (2 * n / 2) + 1 = 2 * n + 1 by omega]
  have : IntKind.u64.wrap ((2 * n + 1 : Nat) : Int) = ((2 * n + 1 : Nat) : Int) := by
    simp [IntKind.wrap, IntKind.signed, IntKind.bits]; omega
  rw [this]; omega
theorem or_odd (n : Nat) (h : n < 1000000) : bits .or .u64 ((n : Int) * 2 + 1) 1 = (n : Int) * 2 + 1 := by
  have h0 : bits .or .u64 ((n : Int) * 2 + 1) 1 = IntKind.u64.wrap (((BitVec.ofInt 64 ((n : Int) * 2 + 1) ||| BitVec.ofInt 64 1).toNat : Nat) : Int) := rfl
  rw [h0, BitVec.toNat_or, show (BitVec.ofInt 64 1).toNat = 1 from rfl, BitVec.toNat_ofInt]
  have h1 : (((n : Int) * 2 + 1) % ((2 ^ 64 : Nat) : Int)).toNat = 2 * n + 1 := by omega
  rw [h1, orN, show 2 * ((2 * n + 1) / 2) + 1 = 2 * n + 1 by omega]
  have : IntKind.u64.wrap ((2 * n + 1 : Nat) : Int) = ((2 * n + 1 : Nat) : Int) := by
    simp [IntKind.wrap, IntKind.signed, IntKind.bits]; omega
  rw [this]; omega
/-- How long a list must be for a literal and its opposite. -/
def sp (l : Int) : Nat := 2 * l.natAbs + 2
end Go.Proofs.Ythdgmkjjpmigeaa
