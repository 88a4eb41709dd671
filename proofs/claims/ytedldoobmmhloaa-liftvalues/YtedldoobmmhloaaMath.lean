/- Plain facts on numbers of 128 bits in two halves: no Go in sight. -/
import Derived.WalkKit
namespace Go.Proofs.Ytedldoobmmhloaa

/-- The low half of a number, as a uint64. -/
def LO (n : Nat) : Int := ((n % 2 ^ 64 : Nat) : Int)
/-- The high half. -/
def HI (n : Nat) : Int := ((n / 2 ^ 64 : Nat) : Int)

/-- The struct's three numbers are the word n of W bits. -/
structure Wd (WW lo hi : Int) (W n : Nat) : Prop where
  w1 : 1 ≤ W
  w2 : W ≤ 128
  lt : n < 2 ^ W
  ww : WW = W
  l : lo = LO n
  h : hi = HI n

theorem pow_le_128 {W : Nat} (h : W ≤ 128) : 2 ^ W ≤ 2 ^ 128 := Nat.pow_le_pow_right (by decide) h
theorem Wd.big {WW lo hi : Int} {W n : Nat} (h : Wd WW lo hi W n) : n < 2 ^ 128 := Nat.lt_of_lt_of_le h.lt (pow_le_128 h.w2)

theorem lo_lt (m : Nat) : m % 2 ^ 64 < 18446744073709551616 := Nat.mod_lt _ (by decide)
theorem hi_lt {m : Nat} (h : m < 2 ^ 128) : m / 2 ^ 64 < 18446744073709551616 := by
  apply Nat.div_lt_of_lt_mul
  exact h
theorem pow_cast (k : Nat) : (2 : Int) ^ k - 1 = ((2 ^ k - 1 : Nat) : Int) := by
  have := Nat.two_pow_pos k
  rw [Int.ofNat_sub this]
  simp
theorem and_mask {x k : Nat} (hx : x < 18446744073709551616) (hk : k ≤ 64) : bits .and .u64 (x : Int) ((2 : Int) ^ k - 1) = ((x % 2 ^ k : Nat) : Int) := by
  have h2 : 2 ^ k ≤ 2 ^ 64 := Nat.pow_le_pow_right (by decide) hk
  rw [pow_cast, bits_and_u64_nat _ _ hx (by have := Nat.two_pow_pos k; omega), Nat.and_two_pow_sub_one_eq_mod]

theorem cut_small_lo {W m : Nat} (h : W ≤ 64) : bits .and .u64 (LO m) ((2 : Int) ^ W - 1) = LO (m % 2 ^ W) := by
  unfold LO
  rw [and_mask (lo_lt m) h]
  have h2 : 2 ^ W ≤ 2 ^ 64 := Nat.pow_le_pow_right (by decide) h
  have h3 : m % 2 ^ W < 2 ^ W := Nat.mod_lt _ (Nat.two_pow_pos W)
  rw [Nat.mod_mod_of_dvd _ (Nat.pow_dvd_pow 2 h), Nat.mod_eq_of_lt (a := m % 2 ^ W) (by omega)]
theorem cut_small_hi {W m : Nat} (h : W ≤ 64) : (0 : Int) = HI (m % 2 ^ W) := by
  unfold HI
  have h2 : 2 ^ W ≤ 2 ^ 64 := Nat.pow_le_pow_right (by decide) h
  have h3 : m % 2 ^ W < 2 ^ W := Nat.mod_lt _ (Nat.two_pow_pos W)
  rw [Nat.div_eq_of_lt (by omega)]; rfl
theorem cut_great_lo {W m : Nat} (h : 64 ≤ W) : LO m = LO (m % 2 ^ W) := by
  unfold LO
  rw [Nat.mod_mod_of_dvd _ (Nat.pow_dvd_pow 2 h)]
theorem cut_great_hi {W m : Nat} (h : 64 ≤ W) (h2 : W ≤ 128) (hm : m < 2 ^ 128) : bits .and .u64 (HI m) ((2 : Int) ^ (W - 64) - 1) = HI (m % 2 ^ W) := by
  unfold HI
  rw [and_mask (hi_lt hm) (by omega)]
  have e : 2 ^ W = 2 ^ 64 * 2 ^ (W - 64) := by rw [← Nat.pow_add]; congr 1; omega
  rw [e, Nat.mod_mul_right_div_self]

theorem div_cast (x j : Nat) : (x : Int) / 2 ^ j = ((x / 2 ^ j : Nat) : Int) := by
  have e : ((2 : Int) ^ j) = ((2 ^ j : Nat) : Int) := by simp
  rw [e, Int.natCast_ediv]
/-- The borrow of x - y. -/
def bor (x y : Int) : Int := if x < y then 1 else 0
/-- The product of the low halves: its low half, its high half. -/
def mulL (n m : Nat) : Int := ((n % 2 ^ 64 * (m % 2 ^ 64) % 18446744073709551616 : Nat) : Int)
def mulH (n m : Nat) : Int := ((n % 2 ^ 64 * (m % 2 ^ 64) / 18446744073709551616 : Nat) : Int)
theorem mod_lt_W (x W : Nat) : x % 2 ^ W < 2 ^ W := Nat.mod_lt _ (Nat.two_pow_pos W)
/-- n below m, as a Bool that no simp set opens. -/
def ltB (n m : Nat) : Bool := decide (n < m)
theorem bit_of (n : Nat) : (bits .and .u64 (LO n) 1 == 1) = n.testBit 0 := by
  have h := and_mask (k := 1) (lo_lt n) (by decide)
  unfold LO
  rw [show (1 : Int) = (2 : Int) ^ 1 - 1 from by decide, h, Nat.testBit_zero]
  by_cases e : n % 2 = 1
  · have e2 : n % 2 ^ 64 % 2 ^ 1 = 1 := by omega
    rw [e2, e]; decide
  · have e2 : n % 2 ^ 64 % 2 ^ 1 = 0 := by omega
    have e3 : n % 2 = 0 := by omega
    rw [e2, e3]; decide
theorem lo0 : (0 : Int) = LO 0 := by decide
theorem hi0 : (0 : Int) = HI 0 := by decide
theorem lo_or (n m : Nat) : bits .or .u64 (LO n) (LO m) = LO (n ||| m) := by
  unfold LO; rw [bits_or_u64_nat _ _ (lo_lt n) (lo_lt m), Nat.or_mod_two_pow]
theorem hi_or {n m : Nat} (hn : n < 2 ^ 128) (hm : m < 2 ^ 128) : bits .or .u64 (HI n) (HI m) = HI (n ||| m) := by
  unfold HI; rw [bits_or_u64_nat _ _ (hi_lt hn) (hi_lt hm), Nat.or_div_two_pow]
/-- A shift's distance. -/
def dist (n W : Nat) : Nat := min n W
/-- The highest bit turned. -/
def top (W n : Nat) : Nat := n ^^^ 2 ^ (W - 1)
def neg (W n : Nat) : Nat := (2 ^ W - n) % 2 ^ W
/-- n with a's sign. -/
def wsign (W a n : Nat) : Nat := if a.testBit (W - 1) then neg W n else n
/-- n above m, m of V bits. -/
def cat (n V m : Nat) : Nat := n * 2 ^ V + m
/-- Turned round by u. -/
def rot (W n u : Nat) : Nat := (n * 2 ^ u % 2 ^ W) ||| (n / 2 ^ (W - u))
def wide (W n k : Nat) : Nat := 2 ^ (W + k) - 1 - (2 ^ W - 1 - n)
end Go.Proofs.Ytedldoobmmhloaa
