import Derived.WalkKit
namespace Go.Proofs.Ytedldoobmmhloaa
def LO (n : Nat) : Int := ((n % 2 ^ 64 : Nat) : Int)
def HI (n : Nat) : Int := ((n / 2 ^ 64 : Nat) : Int)
structure Wd (WW lo hi : Int) (W n : Nat) : Prop where
 w1 : 1 ≤ W
 w2 : W ≤ 128
 lt : n < 2 ^ W
 ww : WW = W
 l : lo = LO n
 h : hi = HI n
theorem pow_le_128 {W : Nat} (h : W ≤ 128) : 2 ^ W ≤ 2 ^ 128 := Nat.pow_le_pow_right (by decide) h
theorem Wd.big {WW lo hi : Int} {W n : Nat} (h : Wd WW lo hi W n) : n < 2 ^ 128 := Nat.lt_of_lt_of_le h.lt (pow_le_128 h.w2)
theorem lo_lt (m : Nat) : m % 2 ^ 64 < 18446744073709551616 := Nat.mod_lt _ (by decide)
theorem hi_lt {m : Nat} (h : m < 2 ^ 128) : m / 2 ^ 64 < 18446744073709551616 := by
 apply Nat.div_lt_of_lt_mul
 exact h
theorem pow_cast (k : Nat) : (2 : Int) ^ k - 1 = ((2 ^ k - 1 : Nat) : Int) := by
 have := Nat.two_pow_pos k
 rw [Int.ofNat_sub this]
 simp
theorem and_mask {x k : Nat} (hx : x < 18446744073709551616) (hk : k ≤ 64) : bits .and .u64 (x : Int) ((2 : Int) ^ k - 1) = ((x % 2 ^ k : Nat) : Int) := by
 have h2 : 2 ^ k ≤ 2 ^ 64 := Nat.pow_le_pow_right (by decide) hk
 rw [pow_cast, bits_and_u64_nat _ _ hx (by have := Nat.two_pow_pos k; omega), Nat.and_two_pow_sub_one_eq_mod]
theorem cut_small_lo {W m : Nat} (h : W ≤ 64) : bits .and .u64 (LO m) ((2 : Int) ^ W - 1) = LO (m % 2 ^ W) := by
 unfold LO
 rw [and_mask (lo_lt m) h]
 have h2 : 2 ^ W ≤ 2 ^ 64 := Nat.pow_le_pow_right (by decide) h
 have h3 : m % 2 ^ W < 2 ^ W := Nat.mod_lt _ (Nat.two_pow_pos W)
 rw [Nat.mod_mod_of_dvd _ (Nat.pow_dvd_pow 2 h), Nat.mod_eq_of_lt (a := m % 2 ^ W) (by omega)]
theorem cut_small_hi {W m : Nat} (h : W ≤ 64) : (0 : Int) = HI (m % 2 ^ W) := by
 unfold HI
 have h2 : 2 ^ W ≤ 2 ^ 64 := Nat.pow_le_pow_right (by decide) h
 have h3 : m % 2 ^ W < 2 ^ W := Nat.mod_lt _ (Nat.two_pow_pos W)
 rw [Nat.div_eq_of_lt (by omega)]; rfl
theorem cut_great_lo {W m : Nat} (h : 64 ≤ W) : LO m = LO (m % 2 ^ W) := by
 unfold LO
 rw [Nat.mod_mod_of_dvd _ (Nat.pow_dvd_pow 2 h)]
theorem cut_great_hi {W m : Nat} (h : 64 ≤ W) (h2 : W ≤ 128) (hm : m < 2 ^ 128) : bits .and .u64 (HI m) ((2 : Int) ^ (W - 64) - 1) = HI (m % 2 ^ W) := by
 unfold HI
 rw [and_mask (hi_lt hm) (by omega)]
 have e : 2 ^ W = 2 ^ 64 * 2 ^ (W - 64) := by rw [← Nat.pow_add]; congr 1; omega
 rw [e, Nat.mod_mul_right_div_self]
theorem mul_mod_128 {n k : Nat} (h : 64 ≤ k) : n * 2 ^ k % 2 ^ 128 = 2 ^ 64 * (n * 2 ^ (k - 64) % 2 ^ 64) := by
 have e : 2 ^ k = 2 ^ 64 * 2 ^ (k - 64) := by rw [← Nat.pow_add]; congr 1; omega
 rw [e, show (2 : Nat) ^ 128 = 2 ^ 64 * 2 ^ 64 from by decide, ← Nat.mul_mod_mul_left]
 congr 1
 rw [Nat.mul_left_comm]
theorem up_far_lo {n k : Nat} (h : 64 ≤ k) : (0 : Int) = LO (n * 2 ^ k % 2 ^ 128) := by
 unfold LO
 rw [mul_mod_128 h, Nat.mul_mod_right]; rfl
theorem mul_min {x j : Nat} : x * 2 ^ min j 64 % 2 ^ 64 = x * 2 ^ j % 2 ^ 64 := by
 by_cases h : j ≤ 64
 ·rw [Nat.min_eq_left h]
 ·rw [Nat.min_eq_right (by omega)]
  have e : 2 ^ j = 2 ^ 64 * 2 ^ (j - 64) := by rw [← Nat.pow_add]; congr 1; omega
  rw [Nat.mul_mod_left, e, ← Nat.mul_assoc, Nat.mul_right_comm, Nat.mul_mod_left]
theorem wrap_mul (x j : Nat) : IntKind.u64.wrap ((x : Int) * 2 ^ j) = ((x * 2 ^ j % 2 ^ 64 : Nat) : Int) := by
 rw [IntKind.wrap_u64]
 have e : ((2 : Int) ^ j) = ((2 ^ j : Nat) : Int) := by simp
 rw [e, ← Int.natCast_mul]
 rfl
theorem up_far_hi {n k : Nat} (h : 64 ≤ k) : IntKind.u64.wrap (LO n * 2 ^ min (k - 64) 64) = HI (n * 2 ^ k % 2 ^ 128) := by
 unfold LO HI
 rw [wrap_mul, mul_min, mul_mod_128 h, Nat.mul_div_cancel_left _ (by decide), Nat.mod_mul_mod]
theorem mod_128 {W x : Nat} (h2 : W ≤ 128) : x % 2 ^ 128 % 2 ^ W = x % 2 ^ W := Nat.mod_mod_of_dvd _ (Nat.pow_dvd_pow 2 h2)
theorem div_swap (n a b : Nat) : n / a / b = n / b / a := by rw [Nat.div_div_eq_div_mul, Nat.div_div_eq_div_mul, Nat.mul_comm]
theorem div_cast (x j : Nat) : (x : Int) / 2 ^ j = ((x / 2 ^ j : Nat) : Int) := by
 have e : ((2 : Int) ^ j) = ((2 ^ j : Nat) : Int) := by simp
 rw [e, Int.natCast_ediv]
theorem up_near_lo {n k : Nat} : IntKind.u64.wrap (LO n * 2 ^ k) = LO (n * 2 ^ k % 2 ^ 128) := by
 unfold LO
 rw [wrap_mul, Nat.mod_mul_mod, Nat.mod_mod_of_dvd _ (Nat.pow_dvd_pow 2 (by decide))]
theorem up_near_nat {n k : Nat} (h : k < 64) : (n / 2 ^ 64 * 2 ^ k % 2 ^ 64) ||| (n % 2 ^ 64 / 2 ^ (64 - k)) = n * 2 ^ k % 2 ^ 128 / 2 ^ 64 := by
 apply Nat.eq_of_testBit_eq
 intro i
 simp only [Nat.testBit_or, Nat.testBit_mod_two_pow, Nat.testBit_div_two_pow, Nat.testBit_mul_two_pow]
 by_cases h1 : i < 64
 ·by_cases h2 : k ≤ i
  ·have e : i - k + 64 = i + 64 - k := by omega
   have e3 : ¬ (i + (64 - k) < 64) := by omega
   simp [h1, h2, e, e3, show i + 64 < 128 from by omega, show k ≤ i + 64 from by omega]
  ·have e2 : i + (64 - k) = i + 64 - k := by omega
   have e3 : i + 64 - k < 64 := by omega
   simp [h1, h2, e2, e3, show i + 64 < 128 from by omega, show k ≤ i + 64 from by omega]
 ·have e3 : ¬ (i + (64 - k) < 64) := by omega
  simp [h1, e3, show ¬ (i + 64 < 128) from by omega]
theorem up_near_hi {n k : Nat} (h : k < 64) : bits .or .u64 (IntKind.u64.wrap (HI n * 2 ^ k)) (LO n / 2 ^ (64 - k)) = HI (n * 2 ^ k % 2 ^ 128) := by
 unfold LO HI
 rw [wrap_mul, div_cast, bits_or_u64_nat _ _ (lo_lt _) (Nat.lt_of_le_of_lt (Nat.div_le_self _ _) (lo_lt n)), up_near_nat h]
theorem shr_min {x j : Nat} (hx : x < 2 ^ 64) : x / 2 ^ min j 64 = x / 2 ^ j := by
 by_cases h : j ≤ 64
 ·rw [Nat.min_eq_left h]
 ·rw [Nat.min_eq_right (by omega), Nat.div_eq_of_lt hx, Nat.div_eq_of_lt]
  exact Nat.lt_of_lt_of_le hx (Nat.pow_le_pow_right (by decide) (by omega))
theorem down_far_lo {n k : Nat} (h : 64 ≤ k) (hn : n < 2 ^ 128) : HI n / 2 ^ min (k - 64) 64 = LO (n / 2 ^ k) := by
 unfold LO HI
 rw [div_cast, shr_min (hi_lt hn)]
 have e : n / 2 ^ k = n / 2 ^ 64 / 2 ^ (k - 64) := by rw [Nat.div_div_eq_div_mul, ← Nat.pow_add]; congr 2; omega
 rw [e, Nat.mod_eq_of_lt]
 exact Nat.lt_of_le_of_lt (Nat.div_le_self _ _) (hi_lt hn)
theorem down_far_hi {n k : Nat} (h : 64 ≤ k) (hn : n < 2 ^ 128) : (0 : Int) = HI (n / 2 ^ k) := by
 unfold HI
 have e : n / 2 ^ k / 2 ^ 64 = n / 2 ^ 64 / 2 ^ k := div_swap ..
 have e2 : n / 2 ^ 64 < 2 ^ k := Nat.lt_of_lt_of_le (hi_lt hn) (show 2 ^ 64 ≤ 2 ^ k from Nat.pow_le_pow_right (by decide) h)
 rw [e, Nat.div_eq_of_lt e2]; rfl
theorem down_near_nat {n k : Nat} (h : k < 64) : (n % 2 ^ 64 / 2 ^ k) ||| (n / 2 ^ 64 * 2 ^ (64 - k) % 2 ^ 64) = n / 2 ^ k % 2 ^ 64 := by
 apply Nat.eq_of_testBit_eq
 intro i
 simp only [Nat.testBit_or, Nat.testBit_mod_two_pow, Nat.testBit_div_two_pow, Nat.testBit_mul_two_pow]
 by_cases h1 : i < 64
 ·by_cases h2 : i + k < 64
  ·simp [h1, h2, show ¬ (64 - k ≤ i) from by omega]
  ·have e : i - (64 - k) + 64 = i + k := by omega
   simp [h1, h2, e, show 64 - k ≤ i from by omega]
 ·simp [h1, show ¬ (i + k < 64) from by omega]
theorem down_near_lo {n k : Nat} (h : k < 64) : bits .or .u64 (LO n / 2 ^ k) (IntKind.u64.wrap (HI n * 2 ^ (64 - k))) = LO (n / 2 ^ k) := by
 unfold LO HI
 rw [wrap_mul, div_cast, bits_or_u64_nat _ _ (Nat.lt_of_le_of_lt (Nat.div_le_self _ _) (lo_lt n)) (lo_lt _), down_near_nat h]
theorem down_near_hi {n k : Nat} : HI n / 2 ^ k = HI (n / 2 ^ k) := by
 unfold HI
 rw [div_cast, div_swap]
theorem div_lt_W {n k W : Nat} (h : n < 2 ^ W) : n / 2 ^ k % 2 ^ W = n / 2 ^ k := Nat.mod_eq_of_lt (Nat.lt_of_le_of_lt (Nat.div_le_self _ _) h)
theorem add_lo (n m : Nat) : (LO n + LO m) % 18446744073709551616 = LO ((n + m) % 2 ^ 128) := by
 unfold LO; omega
theorem add_hi (n m : Nat) : IntKind.u64.wrap (IntKind.u64.wrap (HI n + HI m) + (LO n + LO m) / 18446744073709551616) = HI ((n + m) % 2 ^ 128) := by
 unfold LO HI; rw [IntKind.wrap_u64, IntKind.wrap_u64]; omega
def bor (x y : Int) : Int := if x < y then 1 else 0
theorem sub_lo {n m : Nat} (hm : m < 2 ^ 128) : (LO n + 18446744073709551616 - LO m) % 18446744073709551616 = LO ((n + (2 ^ 128 - m)) % 2 ^ 128) := by
 unfold LO; omega
theorem sub_hi {n m : Nat} (hm : m < 2 ^ 128) : IntKind.u64.wrap (IntKind.u64.wrap (HI n - HI m) - bor (LO n) (LO m)) = HI ((n + (2 ^ 128 - m)) % 2 ^ 128) := by
 unfold bor LO HI; rw [IntKind.wrap_u64, IntKind.wrap_u64]; split <;> omega
theorem sub_mod {n m W : Nat} (h2 : W ≤ 128) (hm : m < 2 ^ W) : (n + (2 ^ 128 - m)) % 2 ^ 128 % 2 ^ W = (n + (2 ^ W - m)) % 2 ^ W := by
 rw [mod_128 h2]
 have e : 2 ^ 128 = 2 ^ W * 2 ^ (128 - W) := by rw [← Nat.pow_add]; congr 1; omega
 have e2 : n + (2 ^ 128 - m) = n + (2 ^ W - m) + 2 ^ W * (2 ^ (128 - W) - 1) := by
  rw [Nat.mul_sub, ← e]
  have h3 := pow_le_128 h2
  omega
 rw [e2, Nat.add_mul_mod_self_left]
def mulL (n m : Nat) : Int := ((n % 2 ^ 64 * (m % 2 ^ 64) % 18446744073709551616 : Nat) : Int)
def mulH (n m : Nat) : Int := ((n % 2 ^ 64 * (m % 2 ^ 64) / 18446744073709551616 : Nat) : Int)
theorem mul_lo (n m : Nat) : mulL n m = LO (n * m % 2 ^ 128) := by
 unfold mulL LO
 rw [Nat.mod_mod_of_dvd _ (show 2 ^ 64 ∣ 2 ^ 128 by decide)]
 congr 1
 exact (Nat.mul_mod n m (2 ^ 64)).symm
theorem mul_nat (n m : Nat) : n * m % 2 ^ 128 / 2 ^ 64 = (n % 2 ^ 64 * (m % 2 ^ 64) / 2 ^ 64 + n % 2 ^ 64 * (m / 2 ^ 64) + n / 2 ^ 64 * (m % 2 ^ 64)) % 2 ^ 64 := by
 have e : n * m = n % 2 ^ 64 * (m % 2 ^ 64) + 2 ^ 64 * (n % 2 ^ 64 * (m / 2 ^ 64) + n / 2 ^ 64 * (m % 2 ^ 64)) + 2 ^ 128 * (n / 2 ^ 64 * (m / 2 ^ 64)) := by
  have a := Nat.mod_add_div n (2 ^ 64)
  have b := Nat.mod_add_div m (2 ^ 64)
  calc n * m = (n % 2 ^ 64 + 2 ^ 64 * (n / 2 ^ 64)) * (m % 2 ^ 64 + 2 ^ 64 * (m / 2 ^ 64)) := by rw [a, b]
   _ = _ := by
    generalize n % 2 ^ 64 = p, n / 2 ^ 64 = q, m % 2 ^ 64 = r, m / 2 ^ 64 = s
    rw [show (2 : Nat) ^ 128 = 2 ^ 64 * 2 ^ 64 from by decide]
    generalize (2 : Nat) ^ 64 = K
    simp only [Nat.mul_add, Nat.mul_left_comm, Nat.mul_comm]
    omega
 rw [e]
 generalize n % 2 ^ 64 * (m % 2 ^ 64) = a, n % 2 ^ 64 * (m / 2 ^ 64) = b, n / 2 ^ 64 * (m % 2 ^ 64) = c, n / 2 ^ 64 * (m / 2 ^ 64) = d
 omega
theorem mul_hi (n m : Nat) : IntKind.u64.wrap (IntKind.u64.wrap (mulH n m + IntKind.u64.wrap (LO n * HI m)) + IntKind.u64.wrap (HI n * LO m)) = HI (n * m % 2 ^ 128) := by
 unfold mulH LO HI
 rw [mul_nat]
 simp only [IntKind.wrap_u64, ← Int.natCast_mul]
 generalize n % 2 ^ 64 * (m % 2 ^ 64) = a, n % 2 ^ 64 * (m / 2 ^ 64) = b, n / 2 ^ 64 * (m % 2 ^ 64) = c
 omega
theorem xor_max {x : Nat} (hx : x < 2 ^ 64) : bits .xor .u64 IntKind.u64.max (x : Int) = ((2 ^ 64 - 1 - x : Nat) : Int) := by
 have e : IntKind.u64.max = ((2 ^ 64 - 1 : Nat) : Int) := by decide
 rw [e, bits_xor_u64_nat _ _ (by decide) hx]
 congr 1
 apply Nat.eq_of_testBit_eq
 intro i
 rw [Nat.testBit_xor, Nat.testBit_two_pow_sub_one, show 2 ^ 64 - 1 - x = 2 ^ 64 - (x + 1) from by omega, Nat.testBit_two_pow_sub_succ hx]
 by_cases h : i < 64
 ·simp [h]
 ·have : x.testBit i = false := Nat.testBit_lt_two_pow (Nat.lt_of_lt_of_le hx (Nat.pow_le_pow_right (by decide) (by omega)))
  simp [h, this]
theorem turn_lo {n : Nat} (hn : n < 2 ^ 128) : bits .xor .u64 IntKind.u64.max (LO n) = LO (2 ^ 128 - 1 - n) := by
 unfold LO; rw [xor_max (Nat.mod_lt _ (by decide))]; omega
theorem turn_hi {n : Nat} (hn : n < 2 ^ 128) : bits .xor .u64 IntKind.u64.max (HI n) = HI (2 ^ 128 - 1 - n) := by
 unfold HI; rw [xor_max (hi_lt hn)]; omega
theorem turn_mod {n W : Nat} (h2 : W ≤ 128) (hn : n < 2 ^ W) : (2 ^ 128 - 1 - n) % 2 ^ W = 2 ^ W - 1 - n := by
 have e : 2 ^ 128 = 2 ^ W * 2 ^ (128 - W) := by rw [← Nat.pow_add]; congr 1; omega
 have e2 : 2 ^ 128 - 1 - n = 2 ^ W - 1 - n + 2 ^ W * (2 ^ (128 - W) - 1) := by
  rw [Nat.mul_sub, ← e]
  have h3 := pow_le_128 h2
  omega
 rw [e2, Nat.add_mul_mod_self_left, Nat.mod_eq_of_lt (by omega)]
theorem Wd.mk' {W n : Nat} (h1 : 1 ≤ W) (h2 : W ≤ 128) (h : n < 2 ^ W) : Wd (W : Int) (LO n) (HI n) W n := ⟨h1, h2, h, rfl, rfl, rfl⟩
theorem mod_lt_W (x W : Nat) : x % 2 ^ W < 2 ^ W := Nat.mod_lt _ (Nat.two_pow_pos W)
theorem turn_lt (n W : Nat) : 2 ^ W - 1 - n < 2 ^ W := by have := Nat.two_pow_pos W; omega
def ltB (n m : Nat) : Bool := decide (n < m)
theorem lt_hi {n m : Nat} (h : HI n ≠ HI m) : decide (HI n < HI m) = ltB n m := by
 unfold ltB; unfold HI at *
 by_cases hn : n < m
 ·simp only [hn, decide_true, decide_eq_true_eq]; omega
 ·simp only [hn, decide_false, decide_eq_false_iff_not]; omega
theorem lt_lo {n m : Nat} (h : HI n = HI m) : decide (LO n < LO m) = ltB n m := by
 unfold ltB; unfold HI at h; unfold LO
 by_cases hn : n < m
 ·simp only [hn, decide_true, decide_eq_true_eq]; omega
 ·simp only [hn, decide_false, decide_eq_false_iff_not]; omega
theorem bit_of (n : Nat) : (bits .and .u64 (LO n) 1 == 1) = n.testBit 0 := by
 have h := and_mask (k := 1) (lo_lt n) (by decide)
 unfold LO
 rw [show (1 : Int) = (2 : Int) ^ 1 - 1 from by decide, h, Nat.testBit_zero]
 by_cases e : n % 2 = 1
 ·have e2 : n % 2 ^ 64 % 2 ^ 1 = 1 := by omega
  rw [e2, e]; decide
 ·have e2 : n % 2 ^ 64 % 2 ^ 1 = 0 := by omega
  have e3 : n % 2 = 0 := by omega
  rw [e2, e3]; decide
theorem bit_at (n i : Nat) : (bits .and .u64 (LO (n / 2 ^ i)) 1 == 1) = n.testBit i := by
 rw [bit_of, Nat.testBit_div_two_pow]; simp
theorem lo0 : (0 : Int) = LO 0 := by decide
theorem hi0 : (0 : Int) = HI 0 := by decide
theorem lo1 : (1 : Int) = LO 1 := by decide
theorem hi1 : (0 : Int) = HI 1 := by decide
theorem lo_and (n m : Nat) : bits .and .u64 (LO n) (LO m) = LO (n &&& m) := by
 unfold LO; rw [bits_and_u64_nat _ _ (lo_lt n) (lo_lt m), Nat.and_mod_two_pow]
theorem lo_or (n m : Nat) : bits .or .u64 (LO n) (LO m) = LO (n ||| m) := by
 unfold LO; rw [bits_or_u64_nat _ _ (lo_lt n) (lo_lt m), Nat.or_mod_two_pow]
theorem lo_xor (n m : Nat) : bits .xor .u64 (LO n) (LO m) = LO (n ^^^ m) := by
 unfold LO; rw [bits_xor_u64_nat _ _ (lo_lt n) (lo_lt m), Nat.xor_mod_two_pow]
theorem hi_and {n m : Nat} (hn : n < 2 ^ 128) (hm : m < 2 ^ 128) : bits .and .u64 (HI n) (HI m) = HI (n &&& m) := by
 unfold HI; rw [bits_and_u64_nat _ _ (hi_lt hn) (hi_lt hm), Nat.and_div_two_pow]
theorem hi_or {n m : Nat} (hn : n < 2 ^ 128) (hm : m < 2 ^ 128) : bits .or .u64 (HI n) (HI m) = HI (n ||| m) := by
 unfold HI; rw [bits_or_u64_nat _ _ (hi_lt hn) (hi_lt hm), Nat.or_div_two_pow]
theorem hi_xor {n m : Nat} (hn : n < 2 ^ 128) (hm : m < 2 ^ 128) : bits .xor .u64 (HI n) (HI m) = HI (n ^^^ m) := by
 unfold HI; rw [bits_xor_u64_nat _ _ (hi_lt hn) (hi_lt hm), Nat.xor_div_two_pow]
def dist (n W : Nat) : Nat := min n W
theorem dist_lt {n W : Nat} (h : W ≤ 128) : dist n W < 2 ^ 62 := by unfold dist; omega
theorem dist_far {n W : Nat} (h : ¬ (LO n ≤ W) ∨ HI n ≠ 0) (h2 : W ≤ 128) : (W : Int) = ((dist n W : Nat) : Int) := by
 unfold dist; unfold LO HI at h; omega
theorem dist_near {n W : Nat} (h : LO n ≤ W) (h2 : HI n = 0) : LO n = ((dist n W : Nat) : Int) := by
 unfold dist; unfold LO HI at *; omega
theorem two_pow_pred {W : Nat} (h : 1 ≤ W) : 2 ^ (W - 1) < 2 ^ W := Nat.pow_lt_pow_right (by decide) (by omega)
theorem one_mod {W : Nat} (h : 1 ≤ W) : 1 % 2 ^ W = 1 := Nat.mod_eq_of_lt (Nat.one_lt_two_pow (by omega))
theorem top_mod {W : Nat} (h : 1 ≤ W) : 1 * 2 ^ (W - 1) % 2 ^ W = 2 ^ (W - 1) := by rw [Nat.one_mul, Nat.mod_eq_of_lt (two_pow_pred h)]
def top (W n : Nat) : Nat := n ^^^ 2 ^ (W - 1)
theorem top_lt {W n : Nat} (h1 : 1 ≤ W) (h : n < 2 ^ W) : top W n < 2 ^ W := Nat.xor_lt_two_pow h (two_pow_pred h1)
def neg (W n : Nat) : Nat := (2 ^ W - n) % 2 ^ W
theorem neg_lt (W n : Nat) : neg W n < 2 ^ W := mod_lt_W _ W
def wsign (W a n : Nat) : Nat := if a.testBit (W - 1) then neg W n else n
theorem wsign_lt {W a n : Nat} (h : n < 2 ^ W) : wsign W a n < 2 ^ W := by unfold wsign; split; exact neg_lt W n; exact h
theorem wrap_nat {x : Int} {m : Nat} (h : x = m) (hm : m < 2 ^ 62) : IntKind.i64.wrap x = ((m : Nat) : Int) := by
 rw [IntKind.wrap_i64]; omega
theorem sub_mod_nat {W k : Nat} (h : 1 ≤ W) : (W : Int) - (k : Int) % W = ((W - k % W : Nat) : Int) := by
 have a : k % W < W := Nat.mod_lt _ h
 rw [← Int.natCast_emod]; omega
theorem sub_sub_mod_nat {W k : Nat} (h : 1 ≤ W) : (W : Int) - ((W : Int) - (k : Int) % W) = ((W - (W - k % W) : Nat) : Int) := by
 rw [sub_mod_nat h]
 have a : k % W < W := Nat.mod_lt _ h
 omega
def cat (n V m : Nat) : Nat := n * 2 ^ V + m
theorem cat_lt {n W m V : Nat} (hn : n < 2 ^ W) (hm : m < 2 ^ V) : cat n V m < 2 ^ (W + V) := by
 unfold cat
 rw [Nat.pow_add]
 have h : (n + 1) * 2 ^ V ≤ 2 ^ W * 2 ^ V := Nat.mul_le_mul_right _ hn
 rw [Nat.add_mul] at h
 omega
theorem up_lt {n W V : Nat} (hn : n < 2 ^ W) : n * 2 ^ V < 2 ^ (W + V) := by
 rw [Nat.pow_add]; exact Nat.mul_lt_mul_of_pos_right hn (Nat.two_pow_pos V)
theorem cat_or {n V m : Nat} (hm : m < 2 ^ V) : n * 2 ^ V ||| m = cat n V m := by
 unfold cat
 rw [Nat.mul_comm, Nat.two_pow_add_eq_or_of_lt hm]
theorem pow_le_add {W V : Nat} : 2 ^ W ≤ 2 ^ (W + V) := Nat.pow_le_pow_right (by decide) (by omega)
theorem pow_le_add' {W V : Nat} : 2 ^ V ≤ 2 ^ (W + V) := Nat.pow_le_pow_right (by decide) (by omega)
def rot (W n u : Nat) : Nat := (n * 2 ^ u % 2 ^ W) ||| (n / 2 ^ (W - u))
theorem rot_lt {W n u : Nat} (hn : n < 2 ^ W) : rot W n u < 2 ^ W := Nat.or_lt_two_pow (mod_lt_W _ W) (Nat.lt_of_le_of_lt (Nat.div_le_self _ _) hn)
def wide (W n k : Nat) : Nat := 2 ^ (W + k) - 1 - (2 ^ W - 1 - n)
theorem wide_lt (W n k : Nat) : wide W n k < 2 ^ (W + k) := by unfold wide; have := Nat.two_pow_pos (W + k); omega
end Go.Proofs.Ytedldoobmmhloaa
