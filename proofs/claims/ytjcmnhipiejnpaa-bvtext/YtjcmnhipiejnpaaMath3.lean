/- Plain facts on long division: no Go in sight. -/
import Derived.Test.YtjcmnhipiejnpaaMath2
namespace Go.Proofs.Ytjcmnhipiejnpaa

theorem top_step {n W k : Nat} (hk : k < W) : n / 2 ^ (W - (k + 1)) = 2 * (n / 2 ^ (W - k)) + (if n.testBit (W - 1 - k) then 1 else 0) := by
  have e : 2 ^ (W - k) = 2 ^ (W - (k + 1)) * 2 := by rw [← Nat.pow_succ]; congr 1; omega
  rw [e, ← Nat.div_div_eq_div_mul, show W - 1 - k = W - (k + 1) from by omega, Nat.testBit_eq_decide_div_mod_eq]
  generalize n / 2 ^ (W - (k + 1)) = x
  by_cases h : x % 2 = 1
  · simp [h]; omega
  · simp [h]; omega
theorem div_step_lt {m N c : Nat} (h : 2 * (N % m) + c < m) : (2 * N + c) / m = 2 * (N / m) ∧ (2 * N + c) % m = 2 * (N % m) + c := by
  have e : 2 * N + c = (2 * (N % m) + c) + m * (2 * (N / m)) := by
    have := Nat.mod_add_div N m
    have e2 : m * (2 * (N / m)) = 2 * (m * (N / m)) := Nat.mul_left_comm ..
    omega
  rw [e]
  constructor
  · rw [Nat.add_mul_div_left _ _ (by omega), Nat.div_eq_of_lt h]; omega
  · rw [Nat.add_mul_mod_self_left, Nat.mod_eq_of_lt h]
theorem div_step_ge {m N c : Nat} (hm : 0 < m) (hc : c ≤ 1) (h : m ≤ 2 * (N % m) + c) : (2 * N + c) / m = 2 * (N / m) + 1 ∧ (2 * N + c) % m = 2 * (N % m) + c - m := by
  have hr : N % m < m := Nat.mod_lt _ hm
  have e : 2 * N + c = (2 * (N % m) + c - m) + m * (2 * (N / m) + 1) := by
    have := Nat.mod_add_div N m
    have e2 : m * (2 * (N / m) + 1) = 2 * (m * (N / m)) + m := by rw [Nat.mul_add, Nat.mul_left_comm]; omega
    omega
  have h2 : 2 * (N % m) + c - m < m := by omega
  generalize hx : 2 * (N % m) + c - m = x at *
  generalize hy : 2 * (N / m) + 1 = y at *
  rw [e]
  constructor
  · rw [Nat.add_mul_div_left _ _ hm, Nat.div_eq_of_lt h2]; omega
  · rw [Nat.add_mul_mod_self_left, Nat.mod_eq_of_lt h2]
theorem testBit_top {W r : Nat} (h1 : 1 ≤ W) (h : r < 2 ^ W) : r.testBit (W - 1) = decide (2 ^ (W - 1) ≤ r) := by
  have e : 2 ^ W = 2 * 2 ^ (W - 1) := by rw [← Nat.pow_succ']; congr 1; omega
  rw [Nat.testBit_eq_decide_div_mod_eq]
  have hp := Nat.two_pow_pos (W - 1)
  by_cases hl : 2 ^ (W - 1) ≤ r
  · have : r / 2 ^ (W - 1) = 1 := by
      apply Nat.div_eq_of_lt_le <;> omega
    simp [this, hl]
  · rw [Nat.div_eq_of_lt (by omega)]; simp [hl]
theorem pow_pred {W : Nat} (h1 : 1 ≤ W) : 2 ^ W = 2 * 2 ^ (W - 1) := by rw [← Nat.pow_succ']; congr 1; omega
theorem twice_lo {W r : Nat} (h1 : 1 ≤ W) (h : r < 2 ^ W) (ht : r.testBit (W - 1) = false) : r * 2 ^ 1 % 2 ^ W = 2 * r := by
  rw [testBit_top h1 h] at ht
  simp at ht
  have e := pow_pred h1
  rw [Nat.mod_eq_of_lt (by omega)]; omega
theorem twice_hi {W r : Nat} (h1 : 1 ≤ W) (h : r < 2 ^ W) (ht : r.testBit (W - 1) = true) : r * 2 ^ 1 % 2 ^ W + 2 ^ W = 2 * r := by
  rw [testBit_top h1 h] at ht
  simp at ht
  have e := pow_pred h1
  rw [Nat.mod_eq_sub_mod (by omega), Nat.mod_eq_of_lt (by omega)]; omega
theorem twice_even {W r : Nat} (h1 : 1 ≤ W) : r * 2 ^ 1 % 2 ^ W % 2 = 0 := by
  rw [Nat.mod_mod_of_dvd _ (by rw [pow_pred h1]; exact Nat.dvd_mul_right 2 _)]; omega
theorem or1_lo {x : Nat} (h : x % 2 = 0) : bits .or .u64 (LO x) 1 = LO (x + 1) := by
  rw [lo1, lo_or]
  congr 1
  have h2 := Nat.two_pow_add_eq_or_of_lt (i := 1) (b := 1) (by decide) (x / 2)
  have e : 2 ^ 1 * (x / 2) = x := by omega
  rw [e] at h2
  exact h2.symm
theorem or1_hi {x : Nat} (h : x % 2 = 0) : HI x = HI (x + 1) := by
  unfold HI; congr 1; omega
theorem quot_bound {n m W k : Nat} (hk : k < W) (hn : n < 2 ^ W) : n / 2 ^ (W - k) / m * 2 ^ 1 % 2 ^ W = 2 * (n / 2 ^ (W - k) / m) := by
  have h1 : n / 2 ^ (W - k) / m ≤ n / 2 ^ (W - k) := Nat.div_le_self _ _
  have h2 : n / 2 ^ (W - k) < 2 ^ k := by
    apply Nat.div_lt_of_lt_mul
    rw [← Nat.pow_add, show W - k + k = W from by omega]; exact hn
  have h3 : 2 ^ (k + 1) ≤ 2 ^ W := Nat.pow_le_pow_right (by decide) (by omega)
  rw [Nat.pow_succ] at h3
  rw [Nat.mod_eq_of_lt (by omega)]; omega

end Go.Proofs.Ytjcmnhipiejnpaa
