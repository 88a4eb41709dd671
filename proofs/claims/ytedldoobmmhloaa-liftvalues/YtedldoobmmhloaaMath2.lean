/- Plain facts on bits of numbers: no Go in sight. -/
import Derived.Test.YtedldoobmmhloaaMath
namespace Go.Proofs.Ytedldoobmmhloaa

theorem bit_lo {n k : Nat} (h : k < 64) : (bits .and .u64 (LO n / 2 ^ k) 1 == 1) = n.testBit k := by
  have e : LO n / 2 ^ k = LO (n % 2 ^ 64 / 2 ^ k) := by
    unfold LO; rw [div_cast]; congr 1
    exact (Nat.mod_eq_of_lt (Nat.lt_of_le_of_lt (Nat.div_le_self _ _) (Nat.mod_lt _ (by decide)))).symm
  rw [e, bit_of, Nat.testBit_div_two_pow, Nat.testBit_mod_two_pow]; simp [h]
theorem bit_hi {n k : Nat} (hn : n < 2 ^ 128) (h : 64 ≤ k) : (bits .and .u64 (HI n / 2 ^ (k - 64)) 1 == 1) = n.testBit k := by
  have e : HI n / 2 ^ (k - 64) = LO (n / 2 ^ 64 / 2 ^ (k - 64)) := by
    unfold LO HI; rw [div_cast]; congr 1
    exact (Nat.mod_eq_of_lt (Nat.lt_of_le_of_lt (Nat.div_le_self _ _) (hi_lt hn))).symm
  rw [e, bit_of, Nat.testBit_div_two_pow, Nat.testBit_div_two_pow]
  congr 1; omega
theorem mod_succ_bit (n k : Nat) : n % 2 ^ (k + 1) = n % 2 ^ k + if n.testBit k then 2 ^ k else 0 := by
  rw [Nat.testBit_eq_decide_div_mod_eq, Nat.pow_succ, Nat.mod_mul]
  by_cases h : n / 2 ^ k % 2 = 1
  · simp [h]
  · have h0 : n / 2 ^ k % 2 = 0 := by omega
    simp [h0]
theorem add_or {x k : Nat} (h : x < 2 ^ k) : x + 2 ^ k = x ||| 2 ^ k := by
  have := Nat.two_pow_add_eq_or_of_lt h 1
  rw [Nat.mul_one] at this
  rw [Nat.add_comm, this, Nat.or_comm]
theorem word_no {n k : Nat} (h : n.testBit k = false) : n % 2 ^ (k + 1) = n % 2 ^ k := by rw [mod_succ_bit]; simp [h]
theorem word_yes {n k : Nat} (h : n.testBit k = true) : n % 2 ^ (k + 1) = n % 2 ^ k ||| 2 ^ k := by
  rw [mod_succ_bit, ← add_or (Nat.mod_lt _ (Nat.two_pow_pos k))]; simp [h]
theorem lo_pow {k : Nat} (h : k < 64) : LO (2 ^ k) = (2 : Int) ^ k := by
  unfold LO
  rw [Nat.mod_eq_of_lt (Nat.pow_lt_pow_right (by decide) h)]; simp
theorem hi_pow' {k : Nat} (h : 64 ≤ k) : HI (2 ^ k) = (2 : Int) ^ (k - 64) := by
  unfold HI
  rw [Nat.pow_div h (by decide)]; simp
theorem or_lo {n k : Nat} (h : k < 64) (hb : n.testBit k = true) : bits .or .u64 (LO (n % 2 ^ k)) (IntKind.u64.wrap (2 ^ k)) = LO (n % 2 ^ (k + 1)) := by
  rw [word_yes hb, ← lo_or, lo_pow h]
  congr 1
  rw [IntKind.wrap_u64]
  have h3 := Nat.two_pow_pos k
  have h2 : 2 ^ k ≤ 2 ^ 63 := Nat.pow_le_pow_right (by decide) (by omega : k ≤ 63)
  have e : ((2 : Int) ^ k) = ((2 ^ k : Nat) : Int) := by simp
  rw [e]; omega
theorem or_lo_hi {n k : Nat} (h : k < 64) (hb : n.testBit k = true) : HI (n % 2 ^ k) = HI (n % 2 ^ (k + 1)) := by
  rw [word_yes hb]
  unfold HI
  rw [Nat.or_div_two_pow, Nat.div_eq_of_lt (a := 2 ^ k) (Nat.pow_lt_pow_right (by decide) h), Nat.or_zero]
theorem or_hi {n k : Nat} (h : 64 ≤ k) (h2 : k < 128) (hn : n < 2 ^ 128) (hb : n.testBit k = true) : bits .or .u64 (HI (n % 2 ^ k)) (IntKind.u64.wrap (2 ^ (k - 64))) = HI (n % 2 ^ (k + 1)) := by
  have h3 : n % 2 ^ k < 2 ^ 128 := Nat.lt_of_le_of_lt (Nat.mod_le _ _) hn
  rw [word_yes hb, ← hi_or h3 (Nat.pow_lt_pow_right (by decide) h2), hi_pow' h]
  congr 1
  rw [IntKind.wrap_u64]
  have h5 := Nat.two_pow_pos (k - 64)
  have h4 : 2 ^ (k - 64) ≤ 2 ^ 63 := Nat.pow_le_pow_right (by decide) (by omega : k - 64 ≤ 63)
  have e : ((2 : Int) ^ (k - 64)) = ((2 ^ (k - 64) : Nat) : Int) := by simp
  rw [e]; omega
theorem or_hi_lo {n k : Nat} (h : 64 ≤ k) (hb : n.testBit k = true) : LO (n % 2 ^ k) = LO (n % 2 ^ (k + 1)) := by
  rw [word_yes hb]
  unfold LO
  rw [Nat.or_mod_two_pow, Nat.mod_eq_zero_of_dvd (Nat.pow_dvd_pow 2 h), Nat.or_zero]

end Go.Proofs.Ytedldoobmmhloaa
