import Derived.WalkKit
import Derived.Test.YtcahhahbcijkiaaGreatProg
import Derived.Test.YtcahhahbcijkiaaGreatAb
import Derived.Handy
import Derived.WalkLawsBesides
import Derived.Deep.RegionHeld3
namespace Go.Proofs.YtcahhahbcijkiaaGreat
set_option maxHeartbeats 12800000
set_option maxRecDepth 100000
def LO (n : Nat) : Int := ((n % 2 ^ 64 : Nat) : Int)
def HI (n : Nat) : Int := ((n / 2 ^ 64 : Nat) : Int)
structure Wd (WW lo hi : Int) (W n : Nat) : Prop where
 w1 : 1 ≤ W
 w2 : W ≤ 128
 lt : n < 2 ^ W
 ww : WW = W
 l : lo = LO n
 h : hi = HI n
theorem pow_le_128 {W : Nat} (h : W ≤ 128) : 2 ^ W ≤ 2 ^ 128 := Nat.pow_le_pow_right (by decide) h
theorem Wd.big {WW lo hi : Int} {W n : Nat} (h : Wd WW lo hi W n) : n < 2 ^ 128 := Nat.lt_of_lt_of_le h.lt (pow_le_128 h.w2)
theorem lo_lt (m : Nat) : m % 2 ^ 64 < 18446744073709551616 := Nat.mod_lt _ (by decide)
theorem hi_lt {m : Nat} (h : m < 2 ^ 128) : m / 2 ^ 64 < 18446744073709551616 := by
 apply Nat.div_lt_of_lt_mul
 exact h
theorem pow_cast (k : Nat) : (2 : Int) ^ k - 1 = ((2 ^ k - 1 : Nat) : Int) := by
 have := Nat.two_pow_pos k
 rw [Int.ofNat_sub this]
 simp
theorem and_mask {x k : Nat} (hx : x < 18446744073709551616) (hk : k ≤ 64) : bits .and .u64 (x : Int) ((2 : Int) ^ k - 1) = ((x % 2 ^ k : Nat) : Int) := by
 have h2 : 2 ^ k ≤ 2 ^ 64 := Nat.pow_le_pow_right (by decide) hk
 rw [pow_cast, bits_and_u64_nat _ _ hx (by have := Nat.two_pow_pos k; omega), Nat.and_two_pow_sub_one_eq_mod]
theorem cut_small_lo {W m : Nat} (h : W ≤ 64) : bits .and .u64 (LO m) ((2 : Int) ^ W - 1) = LO (m % 2 ^ W) := by
 unfold LO
 rw [and_mask (lo_lt m) h]
 have h2 : 2 ^ W ≤ 2 ^ 64 := Nat.pow_le_pow_right (by decide) h
 have h3 : m % 2 ^ W < 2 ^ W := Nat.mod_lt _ (Nat.two_pow_pos W)
 rw [Nat.mod_mod_of_dvd _ (Nat.pow_dvd_pow 2 h), Nat.mod_eq_of_lt (a := m % 2 ^ W) (by omega)]
theorem cut_small_hi {W m : Nat} (h : W ≤ 64) : (0 : Int) = HI (m % 2 ^ W) := by
 unfold HI
 have h2 : 2 ^ W ≤ 2 ^ 64 := Nat.pow_le_pow_right (by decide) h
 have h3 : m % 2 ^ W < 2 ^ W := Nat.mod_lt _ (Nat.two_pow_pos W)
 rw [Nat.div_eq_of_lt (by omega)]; rfl
theorem cut_great_lo {W m : Nat} (h : 64 ≤ W) : LO m = LO (m % 2 ^ W) := by
 unfold LO
 rw [Nat.mod_mod_of_dvd _ (Nat.pow_dvd_pow 2 h)]
theorem cut_great_hi {W m : Nat} (h : 64 ≤ W) (h2 : W ≤ 128) (hm : m < 2 ^ 128) : bits .and .u64 (HI m) ((2 : Int) ^ (W - 64) - 1) = HI (m % 2 ^ W) := by
 unfold HI
 rw [and_mask (hi_lt hm) (by omega)]
 have e : 2 ^ W = 2 ^ 64 * 2 ^ (W - 64) := by rw [← Nat.pow_add]; congr 1; omega
 rw [e, Nat.mod_mul_right_div_self]
theorem mul_mod_128 {n k : Nat} (h : 64 ≤ k) : n * 2 ^ k % 2 ^ 128 = 2 ^ 64 * (n * 2 ^ (k - 64) % 2 ^ 64) := by
 have e : 2 ^ k = 2 ^ 64 * 2 ^ (k - 64) := by rw [← Nat.pow_add]; congr 1; omega
 rw [e, show (2 : Nat) ^ 128 = 2 ^ 64 * 2 ^ 64 from by decide, ← Nat.mul_mod_mul_left]
 congr 1
 rw [Nat.mul_left_comm]
theorem up_far_lo {n k : Nat} (h : 64 ≤ k) : (0 : Int) = LO (n * 2 ^ k % 2 ^ 128) := by
 unfold LO
 rw [mul_mod_128 h, Nat.mul_mod_right]; rfl
theorem mul_min {x j : Nat} : x * 2 ^ min j 64 % 2 ^ 64 = x * 2 ^ j % 2 ^ 64 := by
 by_cases h : j ≤ 64
 ·rw [Nat.min_eq_left h]
 ·rw [Nat.min_eq_right (by omega)]
  have e : 2 ^ j = 2 ^ 64 * 2 ^ (j - 64) := by rw [← Nat.pow_add]; congr 1; omega
  rw [Nat.mul_mod_left, e, ← Nat.mul_assoc, Nat.mul_right_comm, Nat.mul_mod_left]
theorem wrap_mul (x j : Nat) : IntKind.u64.wrap ((x : Int) * 2 ^ j) = ((x * 2 ^ j % 2 ^ 64 : Nat) : Int) := by
 rw [IntKind.wrap_u64]
 have e : ((2 : Int) ^ j) = ((2 ^ j : Nat) : Int) := by simp
 rw [e, ← Int.natCast_mul]
 rfl
theorem up_far_hi {n k : Nat} (h : 64 ≤ k) : IntKind.u64.wrap (LO n * 2 ^ min (k - 64) 64) = HI (n * 2 ^ k % 2 ^ 128) := by
 unfold LO HI
 rw [wrap_mul, mul_min, mul_mod_128 h, Nat.mul_div_cancel_left _ (by decide), Nat.mod_mul_mod]
theorem mod_128 {W x : Nat} (h2 : W ≤ 128) : x % 2 ^ 128 % 2 ^ W = x % 2 ^ W := Nat.mod_mod_of_dvd _ (Nat.pow_dvd_pow 2 h2)
theorem div_swap (n a b : Nat) : n / a / b = n / b / a := by rw [Nat.div_div_eq_div_mul, Nat.div_div_eq_div_mul, Nat.mul_comm]
theorem div_cast (x j : Nat) : (x : Int) / 2 ^ j = ((x / 2 ^ j : Nat) : Int) := by
 have e : ((2 : Int) ^ j) = ((2 ^ j : Nat) : Int) := by simp
 rw [e, Int.natCast_ediv]
theorem up_near_lo {n k : Nat} : IntKind.u64.wrap (LO n * 2 ^ k) = LO (n * 2 ^ k % 2 ^ 128) := by
 unfold LO
 rw [wrap_mul, Nat.mod_mul_mod, Nat.mod_mod_of_dvd _ (Nat.pow_dvd_pow 2 (by decide))]
theorem up_near_nat {n k : Nat} (h : k < 64) : (n / 2 ^ 64 * 2 ^ k % 2 ^ 64) ||| (n % 2 ^ 64 / 2 ^ (64 - k)) = n * 2 ^ k % 2 ^ 128 / 2 ^ 64 := by
 apply Nat.eq_of_testBit_eq
 intro i
 simp only [Nat.testBit_or, Nat.testBit_mod_two_pow, Nat.testBit_div_two_pow, Nat.testBit_mul_two_pow]
 by_cases h1 : i < 64
 ·by_cases h2 : k ≤ i
  ·have e : i - k + 64 = i + 64 - k := by omega
   have e3 : ¬ (i + (64 - k) < 64) := by omega
   simp [h1, h2, e, e3, show i + 64 < 128 from by omega, show k ≤ i + 64 from by omega]
  ·have e2 : i + (64 - k) = i + 64 - k := by omega
   have e3 : i + 64 - k < 64 := by omega
   simp [h1, h2, e2, e3, show i + 64 < 128 from by omega, show k ≤ i + 64 from by omega]
 ·have e3 : ¬ (i + (64 - k) < 64) := by omega
  simp [h1, e3, show ¬ (i + 64 < 128) from by omega]
theorem up_near_hi {n k : Nat} (h : k < 64) : bits .or .u64 (IntKind.u64.wrap (HI n * 2 ^ k)) (LO n / 2 ^ (64 - k)) = HI (n * 2 ^ k % 2 ^ 128) := by
 unfold LO HI
 rw [wrap_mul, div_cast, bits_or_u64_nat _ _ (lo_lt _) (Nat.lt_of_le_of_lt (Nat.div_le_self _ _) (lo_lt n)), up_near_nat h]
theorem shr_min {x j : Nat} (hx : x < 2 ^ 64) : x / 2 ^ min j 64 = x / 2 ^ j := by
 by_cases h : j ≤ 64
 ·rw [Nat.min_eq_left h]
 ·rw [Nat.min_eq_right (by omega), Nat.div_eq_of_lt hx, Nat.div_eq_of_lt]
  exact Nat.lt_of_lt_of_le hx (Nat.pow_le_pow_right (by decide) (by omega))
theorem down_far_lo {n k : Nat} (h : 64 ≤ k) (hn : n < 2 ^ 128) : HI n / 2 ^ min (k - 64) 64 = LO (n / 2 ^ k) := by
 unfold LO HI
 rw [div_cast, shr_min (hi_lt hn)]
 have e : n / 2 ^ k = n / 2 ^ 64 / 2 ^ (k - 64) := by rw [Nat.div_div_eq_div_mul, ← Nat.pow_add]; congr 2; omega
 rw [e, Nat.mod_eq_of_lt]
 exact Nat.lt_of_le_of_lt (Nat.div_le_self _ _) (hi_lt hn)
theorem down_far_hi {n k : Nat} (h : 64 ≤ k) (hn : n < 2 ^ 128) : (0 : Int) = HI (n / 2 ^ k) := by
 unfold HI
 have e : n / 2 ^ k / 2 ^ 64 = n / 2 ^ 64 / 2 ^ k := div_swap ..
 have e2 : n / 2 ^ 64 < 2 ^ k := Nat.lt_of_lt_of_le (hi_lt hn) (show 2 ^ 64 ≤ 2 ^ k from Nat.pow_le_pow_right (by decide) h)
 rw [e, Nat.div_eq_of_lt e2]; rfl
theorem down_near_nat {n k : Nat} (h : k < 64) : (n % 2 ^ 64 / 2 ^ k) ||| (n / 2 ^ 64 * 2 ^ (64 - k) % 2 ^ 64) = n / 2 ^ k % 2 ^ 64 := by
 apply Nat.eq_of_testBit_eq
 intro i
 simp only [Nat.testBit_or, Nat.testBit_mod_two_pow, Nat.testBit_div_two_pow, Nat.testBit_mul_two_pow]
 by_cases h1 : i < 64
 ·by_cases h2 : i + k < 64
  ·simp [h1, h2, show ¬ (64 - k ≤ i) from by omega]
  ·have e : i - (64 - k) + 64 = i + k := by omega
   simp [h1, h2, e, show 64 - k ≤ i from by omega]
 ·simp [h1, show ¬ (i + k < 64) from by omega]
theorem down_near_lo {n k : Nat} (h : k < 64) : bits .or .u64 (LO n / 2 ^ k) (IntKind.u64.wrap (HI n * 2 ^ (64 - k))) = LO (n / 2 ^ k) := by
 unfold LO HI
 rw [wrap_mul, div_cast, bits_or_u64_nat _ _ (Nat.lt_of_le_of_lt (Nat.div_le_self _ _) (lo_lt n)) (lo_lt _), down_near_nat h]
theorem down_near_hi {n k : Nat} : HI n / 2 ^ k = HI (n / 2 ^ k) := by
 unfold HI
 rw [div_cast, div_swap]
theorem div_lt_W {n k W : Nat} (h : n < 2 ^ W) : n / 2 ^ k % 2 ^ W = n / 2 ^ k := Nat.mod_eq_of_lt (Nat.lt_of_le_of_lt (Nat.div_le_self _ _) h)
def bor (x y : Int) : Int := if x < y then 1 else 0
theorem sub_lo {n m : Nat} (hm : m < 2 ^ 128) : (LO n + 18446744073709551616 - LO m) % 18446744073709551616 = LO ((n + (2 ^ 128 - m)) % 2 ^ 128) := by
 unfold LO; omega
theorem sub_hi {n m : Nat} (hm : m < 2 ^ 128) : IntKind.u64.wrap (IntKind.u64.wrap (HI n - HI m) - bor (LO n) (LO m)) = HI ((n + (2 ^ 128 - m)) % 2 ^ 128) := by
 unfold bor LO HI; rw [IntKind.wrap_u64, IntKind.wrap_u64]; split <;> omega
theorem sub_mod {n m W : Nat} (h2 : W ≤ 128) (hm : m < 2 ^ W) : (n + (2 ^ 128 - m)) % 2 ^ 128 % 2 ^ W = (n + (2 ^ W - m)) % 2 ^ W := by
 rw [mod_128 h2]
 have e : 2 ^ 128 = 2 ^ W * 2 ^ (128 - W) := by rw [← Nat.pow_add]; congr 1; omega
 have e2 : n + (2 ^ 128 - m) = n + (2 ^ W - m) + 2 ^ W * (2 ^ (128 - W) - 1) := by
  rw [Nat.mul_sub, ← e]
  have h3 := pow_le_128 h2
  omega
 rw [e2, Nat.add_mul_mod_self_left]
def mulL (n m : Nat) : Int := ((n % 2 ^ 64 * (m % 2 ^ 64) % 18446744073709551616 : Nat) : Int)
def mulH (n m : Nat) : Int := ((n % 2 ^ 64 * (m % 2 ^ 64) / 18446744073709551616 : Nat) : Int)
theorem xor_max {x : Nat} (hx : x < 2 ^ 64) : bits .xor .u64 IntKind.u64.max (x : Int) = ((2 ^ 64 - 1 - x : Nat) : Int) := by
 have e : IntKind.u64.max = ((2 ^ 64 - 1 : Nat) : Int) := by decide
 rw [e, bits_xor_u64_nat _ _ (by decide) hx]
 congr 1
 apply Nat.eq_of_testBit_eq
 intro i
 rw [Nat.testBit_xor, Nat.testBit_two_pow_sub_one, show 2 ^ 64 - 1 - x = 2 ^ 64 - (x + 1) from by omega, Nat.testBit_two_pow_sub_succ hx]
 by_cases h : i < 64
 ·simp [h]
 ·have : x.testBit i = false := Nat.testBit_lt_two_pow (Nat.lt_of_lt_of_le hx (Nat.pow_le_pow_right (by decide) (by omega)))
  simp [h, this]
theorem turn_lo {n : Nat} (hn : n < 2 ^ 128) : bits .xor .u64 IntKind.u64.max (LO n) = LO (2 ^ 128 - 1 - n) := by
 unfold LO; rw [xor_max (Nat.mod_lt _ (by decide))]; omega
theorem turn_hi {n : Nat} (hn : n < 2 ^ 128) : bits .xor .u64 IntKind.u64.max (HI n) = HI (2 ^ 128 - 1 - n) := by
 unfold HI; rw [xor_max (hi_lt hn)]; omega
theorem turn_mod {n W : Nat} (h2 : W ≤ 128) (hn : n < 2 ^ W) : (2 ^ 128 - 1 - n) % 2 ^ W = 2 ^ W - 1 - n := by
 have e : 2 ^ 128 = 2 ^ W * 2 ^ (128 - W) := by rw [← Nat.pow_add]; congr 1; omega
 have e2 : 2 ^ 128 - 1 - n = 2 ^ W - 1 - n + 2 ^ W * (2 ^ (128 - W) - 1) := by
  rw [Nat.mul_sub, ← e]
  have h3 := pow_le_128 h2
  omega
 rw [e2, Nat.add_mul_mod_self_left, Nat.mod_eq_of_lt (by omega)]
theorem Wd.mk' {W n : Nat} (h1 : 1 ≤ W) (h2 : W ≤ 128) (h : n < 2 ^ W) : Wd (W : Int) (LO n) (HI n) W n := ⟨h1, h2, h, rfl, rfl, rfl⟩
theorem mod_lt_W (x W : Nat) : x % 2 ^ W < 2 ^ W := Nat.mod_lt _ (Nat.two_pow_pos W)
def ltB (n m : Nat) : Bool := decide (n < m)
theorem lt_hi {n m : Nat} (h : HI n ≠ HI m) : decide (HI n < HI m) = ltB n m := by
 unfold ltB; unfold HI at *
 by_cases hn : n < m
 ·simp only [hn, decide_true, decide_eq_true_eq]; omega
 ·simp only [hn, decide_false, decide_eq_false_iff_not]; omega
theorem lt_lo {n m : Nat} (h : HI n = HI m) : decide (LO n < LO m) = ltB n m := by
 unfold ltB; unfold HI at h; unfold LO
 by_cases hn : n < m
 ·simp only [hn, decide_true, decide_eq_true_eq]; omega
 ·simp only [hn, decide_false, decide_eq_false_iff_not]; omega
theorem bit_of (n : Nat) : (bits .and .u64 (LO n) 1 == 1) = n.testBit 0 := by
 have h := and_mask (k := 1) (lo_lt n) (by decide)
 unfold LO
 rw [show (1 : Int) = (2 : Int) ^ 1 - 1 from by decide, h, Nat.testBit_zero]
 by_cases e : n % 2 = 1
 ·have e2 : n % 2 ^ 64 % 2 ^ 1 = 1 := by omega
  rw [e2, e]; decide
 ·have e2 : n % 2 ^ 64 % 2 ^ 1 = 0 := by omega
  have e3 : n % 2 = 0 := by omega
  rw [e2, e3]; decide
theorem bit_at (n i : Nat) : (bits .and .u64 (LO (n / 2 ^ i)) 1 == 1) = n.testBit i := by
 rw [bit_of, Nat.testBit_div_two_pow]; simp
theorem lo0 : (0 : Int) = LO 0 := by decide
theorem hi0 : (0 : Int) = HI 0 := by decide
theorem lo1 : (1 : Int) = LO 1 := by decide
theorem hi1 : (0 : Int) = HI 1 := by decide
theorem lo_or (n m : Nat) : bits .or .u64 (LO n) (LO m) = LO (n ||| m) := by
 unfold LO; rw [bits_or_u64_nat _ _ (lo_lt n) (lo_lt m), Nat.or_mod_two_pow]
theorem hi_or {n m : Nat} (hn : n < 2 ^ 128) (hm : m < 2 ^ 128) : bits .or .u64 (HI n) (HI m) = HI (n ||| m) := by
 unfold HI; rw [bits_or_u64_nat _ _ (hi_lt hn) (hi_lt hm), Nat.or_div_two_pow]
def dist (n W : Nat) : Nat := min n W
def top (W n : Nat) : Nat := n ^^^ 2 ^ (W - 1)
def neg (W n : Nat) : Nat := (2 ^ W - n) % 2 ^ W
def wsign (W a n : Nat) : Nat := if a.testBit (W - 1) then neg W n else n
theorem wrap_nat {x : Int} {m : Nat} (h : x = m) (hm : m < 2 ^ 62) : IntKind.i64.wrap x = ((m : Nat) : Int) := by
 rw [IntKind.wrap_i64]; omega
theorem sub_mod_nat {W k : Nat} (h : 1 ≤ W) : (W : Int) - (k : Int) % W = ((W - k % W : Nat) : Int) := by
 have a : k % W < W := Nat.mod_lt _ h
 rw [← Int.natCast_emod]; omega
def cat (n V m : Nat) : Nat := n * 2 ^ V + m
def rot (W n u : Nat) : Nat := (n * 2 ^ u % 2 ^ W) ||| (n / 2 ^ (W - u))
def wide (W n k : Nat) : Nat := 2 ^ (W + k) - 1 - (2 ^ W - 1 - n)
open Go.RowKit
theorem bcell {W w1 : World} (hb : Below W.heap.size W w1) : (∀ b o, b < W.heap.size → w1.cell? ⟨b, o, none⟩ = W.cell? ⟨b, o, none⟩) ∧ (∀ b o, b < W.heap.size → w1.frozen? ⟨b, o, none⟩ = W.frozen? ⟨b, o, none⟩) :=
 ⟨fun b o h => hb.cell (p := ⟨b, o, none⟩) h, fun b o h => hb.frozen (p := ⟨b, o, none⟩) h⟩
theorem ret_int {k : IntKind} {a b : Int} (h : a = b) : Ending.returned (.int k a) = .returned (.int k b) := by rw [h]
theorem wrap_low {n : Int} (h0 : 0 ≤ n) (h1 : n ≤ 64) : IntKind.u64.wrap (IntKind.u64.wrap (2 ^ n.toNat) - 1) = 2 ^ n.toNat - 1 := by
 obtain ⟨k, rfl⟩ := Int.eq_ofNat_of_zero_le h0
 simp only [Int.toNat_natCast, IntKind.wrap_u64]
 by_cases h : k = 64
 ·subst h; decide
 ·have h2 : 2 ^ k ≤ 2 ^ 63 := Nat.pow_le_pow_right (by decide) (by omega : k ≤ 63)
  have h3 := Nat.two_pow_pos k
  have e : ((2 : Int) ^ k) = ((2 ^ k : Nat) : Int) := by simp
  rw [e]
  omega
theorem lowest_any (n : Int) (h0 : 0 ≤ n) (h1 : n ≤ 64) (w : World) :
  Calls Tryz.prog 99 #[.int .i64 n] w fun e w' => e = .returned (.int .u64 (2 ^ n.toNat - 1)) ∧ w' = w := by
 go_enter Tryz.func99, Tryz.ntmps99
 go_wp2
 go_ret
 exact ⟨ret_int (wrap_low h0 h1), rfl⟩
theorem agg3 {k1 k2 k3 : IntKind} {a b c a' b' c' : Int} (h1 : a = a') (h2 : b = b') (h3 : c = c') : Ending.returned (.agg #[.int k1 a, .int k2 b, .int k3 c]) = .returned (.agg #[.int k1 a', .int k2 b', .int k3 c']) := by rw [h1, h2, h3]
theorem cut_any {W m r : Nat} {WW lo hi : Int} (h1 : 1 ≤ W) (h2 : W ≤ 128) (hm : m < 2 ^ 128) (hr : m % 2 ^ W = r) (hw : WW = W) (hl : lo = LO m) (hh : hi = HI m) (w : World) :
  Rt 67 #[.int .i64 WW, .int .u64 lo, .int .u64 hi] w (.agg #[.int .i64 W, .int .u64 (LO (r)), .int .u64 (HI (r))]) := by
 subst hw hl hh hr
 by_cases h : (W : Int) ≤ 64
 ·go_enter Tryz.func67, Tryz.ntmps67
  go_wp2_with (go_at_call 99; refine (lowest_any _ (by omega) (by omega) _).mono ?_; rintro e w' ⟨rfl, rfl⟩)
  go_returns
  refine ⟨agg3 rfl ?_ ?_, by go_grown⟩
  ·exact cut_small_lo (by omega)
  ·exact cut_small_hi (by omega)
 ·go_enter Tryz.func67, Tryz.ntmps67
  go_wp2_with (go_at_call 99; refine (lowest_any _ (by omega) (by omega) _).mono ?_; rintro e w' ⟨rfl, rfl⟩)
  go_returns
  refine ⟨agg3 rfl ?_ ?_, by go_grown⟩
  ·exact cut_great_lo (by omega)
  ·exact cut_great_hi (by omega) h2 hm
theorem below_step {w W w1 : World} (h : Below w.heap.size w W) (hb : Below W.heap.size W w1) : Below w.heap.size w w1 := h.trans (hb.mono h.size)
def cv (x : World) (a : Addr) : Value := (x.cell? a).getD undef
theorem cv_some {x : World} {a : Addr} (h : (x.cell? a).isSome = true) : x.cell? a = some (cv x a) := by
 unfold cv
 cases h2 : x.cell? a with
 | none => simp [h2] at h
 | some v => rfl
theorem cv_of {x : World} {a : Addr} {v : Value} (h : x.cell? a = some v) : x.cell? a = some (cv x a) := cv_some (by simp [h])
theorem keep_cell {W w1 : World} (hb : Below W.heap.size W w1) {a : Addr} {v : Value} (h : W.cell? a = some v) : w1.cell? a = some v := by
 rw [hb.cell (World.block_lt_of_cell? W a h)]; exact h
theorem keep_frozen {W w1 : World} (hb : Below W.heap.size W w1) {r : Nat} {v : Value} (h : W.cell? ⟨r, 0, none⟩ = some v) (hf : ∀ o, W.frozen? ⟨r, o, none⟩ = false) : ∀ o, w1.frozen? ⟨r, o, none⟩ = false := fun o => by
 have hl := World.block_lt_of_cell? W _ h
 rw [hb.frozen (p := ⟨r, o, none⟩) hl]; exact hf o
theorem keep_some {W w1 : World} (hb : Below W.heap.size W w1) {a : Addr} (h : (W.cell? a).isSome = true) : w1.cell? a = some (cv w1 a) := by
 obtain ⟨v, hv⟩ := Option.isSome_iff_exists.1 h
 exact cv_of (keep_cell hb hv)
theorem keep_frozen2 {W w1 : World} (hb : Below W.heap.size W w1) {r : Nat} (h : (W.cell? ⟨r, 0, none⟩).isSome = true) (hf : ∀ o, W.frozen? ⟨r, o, none⟩ = false) : ∀ o, w1.frozen? ⟨r, o, none⟩ = false := by
 obtain ⟨v, hv⟩ := Option.isSome_iff_exists.1 h
 exact keep_frozen hb hv hf
abbrev T3 (w : World) (b : Nat) (x y z : Value) (P : Prop) : Prop := w.cell? ⟨b, 0, none⟩ = some x ∧ w.cell? ⟨b, 1, none⟩ = some y ∧ w.cell? ⟨b, 2, none⟩ = some z ∧ P
abbrev W3 (w : World) (b : Nat) (W : Int) (n : Nat) (P : Prop) : Prop := T3 w b (.int .i64 W) (.int .u64 (LO n)) (.int .u64 (HI n)) P
abbrev S3 (w : World) (b : Nat) (P : Prop) : Prop := T3 w b (cv w ⟨b, 0, none⟩) (cv w ⟨b, 1, none⟩) (cv w ⟨b, 2, none⟩) P
abbrev F3 (w : World) (b : Nat) (P : Prop) : Prop := (∀ o, w.frozen? ⟨b, o, none⟩ = false) ∧ P
theorem k3 {W w1 : World} (hb : Below W.heap.size W w1) {b : Nat} {x y z : Value} {P : Prop} (h0 : W.cell? ⟨b, 0, none⟩ = some x) (h1 : W.cell? ⟨b, 1, none⟩ = some y) (h2 : W.cell? ⟨b, 2, none⟩ = some z) (hP : P) : T3 w1 b x y z P := ⟨keep_cell hb h0, keep_cell hb h1, keep_cell hb h2, hP⟩
theorem s3 {W w1 : World} (hb : Below W.heap.size W w1) {b : Nat} {P : Prop} (h0 : (W.cell? ⟨b, 0, none⟩).isSome = true) (h1 : (W.cell? ⟨b, 1, none⟩).isSome = true) (h2 : (W.cell? ⟨b, 2, none⟩).isSome = true) (hP : P) : S3 w1 b P := ⟨keep_some hb h0, keep_some hb h1, keep_some hb h2, hP⟩
theorem f3 {W w1 : World} (hb : Below W.heap.size W w1) {r : Nat} {P : Prop} (h : (W.cell? ⟨r, 0, none⟩).isSome = true) (hf : ∀ o, W.frozen? ⟨r, o, none⟩ = false) (hP : P) : F3 w1 r P := ⟨keep_frozen2 hb h hf, hP⟩
theorem zT {w : World} {b : Nat} {x y z : Value} {P : Prop} (h : T3 w b x y z P) : b < w.heap.size := World.block_lt_of_cell? _ _ h.1
theorem put_cell {W : World} {r s j : Nat} {a b c v : Value} (hp : r ≠ s) (h : W.cell? ⟨s, j, none⟩ = some v) : (((W.setCell ⟨r, 0, none⟩ a).setCell ⟨r, 1, none⟩ b).setCell ⟨r, 2, none⟩ c).cell? ⟨s, j, none⟩ = some v := by
 have hn : ∀ o, (⟨r, o, none⟩ : Addr) ≠ ⟨s, j, none⟩ := fun o e => hp (by injection e)
 rw [World.cell?_setCell_other _ _ _ _ (hn 2), World.cell?_setCell_other _ _ _ _ (hn 1), World.cell?_setCell_other _ _ _ _ (hn 0)]; exact h
theorem put_own0 {W : World} {r : Nat} {a b c v : Value} (h : W.cell? ⟨r, 0, none⟩ = some v) : (((W.setCell ⟨r, 0, none⟩ a).setCell ⟨r, 1, none⟩ b).setCell ⟨r, 2, none⟩ c).cell? ⟨r, 0, none⟩ = some (cv (((W.setCell ⟨r, 0, none⟩ a).setCell ⟨r, 1, none⟩ b).setCell ⟨r, 2, none⟩ c) ⟨r, 0, none⟩) := by
 refine cv_of (v := a) ?_
 rw [World.cell?_setCell_other _ _ _ _ (by simp), World.cell?_setCell_other _ _ _ _ (by simp)]
 exact World.cell?_setCell_same _ _ _ h
theorem put_own1 {W : World} {r : Nat} {a b c v : Value} (h : W.cell? ⟨r, 1, none⟩ = some v) : (((W.setCell ⟨r, 0, none⟩ a).setCell ⟨r, 1, none⟩ b).setCell ⟨r, 2, none⟩ c).cell? ⟨r, 1, none⟩ = some (cv (((W.setCell ⟨r, 0, none⟩ a).setCell ⟨r, 1, none⟩ b).setCell ⟨r, 2, none⟩ c) ⟨r, 1, none⟩) := by
 refine cv_of (v := b) ?_
 rw [World.cell?_setCell_other _ _ _ _ (by simp)]
 exact World.cell?_setCell_same _ _ _ (by rw [World.cell?_setCell_other _ _ _ _ (by simp)]; exact h)
theorem put_own2 {W : World} {r : Nat} {a b c v : Value} (h : W.cell? ⟨r, 2, none⟩ = some v) : (((W.setCell ⟨r, 0, none⟩ a).setCell ⟨r, 1, none⟩ b).setCell ⟨r, 2, none⟩ c).cell? ⟨r, 2, none⟩ = some (cv (((W.setCell ⟨r, 0, none⟩ a).setCell ⟨r, 1, none⟩ b).setCell ⟨r, 2, none⟩ c) ⟨r, 2, none⟩) := by
 refine cv_of (v := c) ?_
 exact World.cell?_setCell_same _ _ _ (by rw [World.cell?_setCell_other _ _ _ _ (by simp), World.cell?_setCell_other _ _ _ _ (by simp)]; exact h)
theorem put_frozen {W : World} {r : Nat} {a b c : Value} (hf : ∀ o, W.frozen? ⟨r, o, none⟩ = false) : ∀ o, (((W.setCell ⟨r, 0, none⟩ a).setCell ⟨r, 1, none⟩ b).setCell ⟨r, 2, none⟩ c).frozen? ⟨r, o, none⟩ = false := fun o => by
 rw [World.frozen?_setCell, World.frozen?_setCell, World.frozen?_setCell]; exact hf o
theorem put_below {w W : World} {r : Nat} {a b c : Value} (h : Below w.heap.size w W) (hr : w.heap.size ≤ r) : Below w.heap.size w (((W.setCell ⟨r, 0, none⟩ a).setCell ⟨r, 1, none⟩ b).setCell ⟨r, 2, none⟩ c) :=
 ((h.setCell hr _).setCell hr _).setCell hr _
theorem some_back {w : World} {a b : Addr} {v u : Value} (h : (w.setCell a v).cell? b = some u) : ∃ u', w.cell? b = some u' := by
 by_cases hab : a = b
 ·subst hab
  unfold World.cell? World.setCell at h
  unfold World.cell?
  simp only [Array.getElem?_modify, ↓reduceIte] at h
  cases hw : w.heap[a.block]? with
  | none => simp [hw] at h
  | some o =>
   cases o <;> simp [hw] at h ⊢
   rename_i c e f
   obtain ⟨h1, h2⟩ := h
   simp only [h1] at h2 ⊢
   rcases Nat.lt_or_ge a.off c.size with h' | h'
   ·exact ⟨trivial, _, Array.getElem?_eq_getElem h'⟩
   ·rw [Array.getElem?_eq_none (by simpa using h')] at h2; cases h2
 ·rw [World.cell?_setCell_other _ _ _ _ hab] at h; exact ⟨u, h⟩
theorem got0 {W : World} {r : Nat} {a b c v : Value} (h : (((W.setCell ⟨r, 0, none⟩ a).setCell ⟨r, 1, none⟩ b).setCell ⟨r, 2, none⟩ c).cell? ⟨r, 0, none⟩ = some v) : (((W.setCell ⟨r, 0, none⟩ a).setCell ⟨r, 1, none⟩ b).setCell ⟨r, 2, none⟩ c).cell? ⟨r, 0, none⟩ = some a := by
 obtain ⟨_, h⟩ := some_back h; obtain ⟨_, h⟩ := some_back h; obtain ⟨_, h⟩ := some_back h
 rw [World.cell?_setCell_other _ _ _ _ (by simp), World.cell?_setCell_other _ _ _ _ (by simp)]
 exact World.cell?_setCell_same _ _ _ h
theorem got1 {W : World} {r : Nat} {a b c v : Value} (h : (((W.setCell ⟨r, 0, none⟩ a).setCell ⟨r, 1, none⟩ b).setCell ⟨r, 2, none⟩ c).cell? ⟨r, 1, none⟩ = some v) : (((W.setCell ⟨r, 0, none⟩ a).setCell ⟨r, 1, none⟩ b).setCell ⟨r, 2, none⟩ c).cell? ⟨r, 1, none⟩ = some b := by
 obtain ⟨_, h⟩ := some_back h; obtain ⟨_, h⟩ := some_back h
 rw [World.cell?_setCell_other _ _ _ _ (by simp)]
 exact World.cell?_setCell_same _ _ _ h
theorem got2 {W : World} {r : Nat} {a b c v : Value} (h : (((W.setCell ⟨r, 0, none⟩ a).setCell ⟨r, 1, none⟩ b).setCell ⟨r, 2, none⟩ c).cell? ⟨r, 2, none⟩ = some v) : (((W.setCell ⟨r, 0, none⟩ a).setCell ⟨r, 1, none⟩ b).setCell ⟨r, 2, none⟩ c).cell? ⟨r, 2, none⟩ = some c := by
 obtain ⟨_, h⟩ := some_back h
 exact World.cell?_setCell_same _ _ _ h
theorem ret_bits {fn : Func} {p : Nat} (hfn : fn.results = #[.cell p 48]) {tmps : Array Value} {r : Nat} {k0 k1 k2 : IntKind} {v0 v1 v2 : Int} {x : World} (hp : tmps.getD p undef = .pointer (some ⟨r, 0, none⟩))
  (h0 : x.cell? ⟨r, 0, none⟩ = some (.int k0 v0)) (h1 : x.cell? ⟨r, 1, none⟩ = some (.int k1 v1)) (h2 : x.cell? ⟨r, 2, none⟩ = some (.int k2 v2)) : (results fn tmps).run Tryz.prog x = .ok (.agg #[.int k0 v0, .int k1 v1, .int k2 v2]) x := by
 simp at hp
 simp [results, hfn, hp, go_sem, h0, h1, h2]
theorem ret_bits2 {fn : Func} {p u : Nat} (hfn : fn.results = #[.cell p 48, .tmp u]) {tmps : Array Value} {r : Nat} {k0 k1 k2 : IntKind} {v0 v1 v2 : Int} {v : Value} {x : World} (hp : tmps.getD p undef = .pointer (some ⟨r, 0, none⟩)) (hu : tmps.getD u undef = v)
  (h0 : x.cell? ⟨r, 0, none⟩ = some (.int k0 v0)) (h1 : x.cell? ⟨r, 1, none⟩ = some (.int k1 v1)) (h2 : x.cell? ⟨r, 2, none⟩ = some (.int k2 v2)) : (results fn tmps).run Tryz.prog x = .ok (.tuple #[.agg #[.int k0 v0, .int k1 v1, .int k2 v2], v]) x := by
 rw [results_cell_tmp hfn, hp, hu]
 simp [go_sem, h0, h1, h2, Result.andThen]
theorem moveUp_any {W n k : Nat} {WW lo hi kk : Int} (hw : Wd WW lo hi W n) (hk : kk = k) (hk2 : k < 2 ^ 62) (w : World) :
  Rt 194 #[.agg #[.int .i64 WW, .int .u64 lo, .int .u64 hi], .int .i64 kk] w (.agg #[.int .i64 W, .int .u64 (LO (n * 2 ^ k % 2 ^ W)), .int .u64 (HI (n * 2 ^ k % 2 ^ W))]) := by
 obtain ⟨h1, h2, hn, rfl, rfl, rfl⟩ := hw
 subst hk
 by_cases h : (64 : Int) ≤ k
 ·go_enter Tryz.func194, Tryz.ntmps194
  go_wp2_with fail
  refine (cut_any (m := n * 2 ^ k % 2 ^ 128) (r := n * 2 ^ k % 2 ^ W) h1 h2 (Nat.mod_lt _ (by decide)) (mod_128 h2) rfl (up_far_lo (by omega)) (up_far_hi (by omega)) _).mono ?_
  rintro e w1 ⟨rfl, hb⟩
  have hb' := below_step (w := w) (by go_grown) hb
  obtain ⟨hc, hf⟩ := bcell hb
  go_wp2_with fail
  refine bodyPost_ret (v := .agg #[.int .i64 W, .int .u64 (LO (n * 2 ^ k % 2 ^ W)), .int .u64 (HI (n * 2 ^ k % 2 ^ W))]) (by simp [results, Tryz.results194, go_sem, hc]) rfl ?_
  exact ⟨rfl, by go_grown⟩
 ·go_enter Tryz.func194, Tryz.ntmps194
  go_wp2_with fail
  refine (cut_any (m := n * 2 ^ k % 2 ^ 128) (r := n * 2 ^ k % 2 ^ W) h1 h2 (Nat.mod_lt _ (by decide)) (mod_128 h2) rfl up_near_lo (up_near_hi (by omega)) _).mono ?_
  rintro e w1 ⟨rfl, hb⟩
  have hb' := below_step (w := w) (by go_grown) hb
  obtain ⟨hc, hf⟩ := bcell hb
  go_wp2_with fail
  refine bodyPost_ret (v := .agg #[.int .i64 W, .int .u64 (LO (n * 2 ^ k % 2 ^ W)), .int .u64 (HI (n * 2 ^ k % 2 ^ W))]) (by simp [results, Tryz.results194, go_sem, hc]) rfl ?_
  exact ⟨rfl, by go_grown⟩
theorem moveDown_any {W n k : Nat} {WW lo hi kk : Int} (hw : Wd WW lo hi W n) (hk : kk = k) (hk2 : k < 2 ^ 62) (w : World) :
  Rt 152 #[.agg #[.int .i64 WW, .int .u64 lo, .int .u64 hi], .int .i64 kk] w (.agg #[.int .i64 W, .int .u64 (LO (n / 2 ^ k)), .int .u64 (HI (n / 2 ^ k))]) := by
 have hbig := hw.big
 obtain ⟨h1, h2, hn, rfl, rfl, rfl⟩ := hw
 subst hk
 have hdb : n / 2 ^ k < 2 ^ 128 := Nat.lt_of_le_of_lt (Nat.div_le_self _ _) hbig
 by_cases h : (64 : Int) ≤ k
 ·go_enter Tryz.func152, Tryz.ntmps152
  go_wp2_with fail
  refine (cut_any (m := n / 2 ^ k) (r := n / 2 ^ k) h1 h2 hdb (div_lt_W hn) rfl (down_far_lo (by omega) hbig) (down_far_hi (by omega) hbig) _).mono ?_
  rintro e w1 ⟨rfl, hb⟩
  have hb' := below_step (w := w) (by go_grown) hb
  obtain ⟨hc, hf⟩ := bcell hb
  go_wp2_with fail
  refine bodyPost_ret (v := .agg #[.int .i64 W, .int .u64 (LO (n / 2 ^ k)), .int .u64 (HI (n / 2 ^ k))]) (by simp [results, Tryz.results152, go_sem, hc]) rfl ?_
  exact ⟨rfl, by go_grown⟩
 ·go_enter Tryz.func152, Tryz.ntmps152
  go_wp2_with fail
  refine (cut_any (m := n / 2 ^ k) (r := n / 2 ^ k) h1 h2 hdb (div_lt_W hn) rfl (down_near_lo (by omega)) down_near_hi _).mono ?_
  rintro e w1 ⟨rfl, hb⟩
  have hb' := below_step (w := w) (by go_grown) hb
  obtain ⟨hc, hf⟩ := bcell hb
  go_wp2_with fail
  refine bodyPost_ret (v := .agg #[.int .i64 W, .int .u64 (LO (n / 2 ^ k)), .int .u64 (HI (n / 2 ^ k))]) (by simp [results, Tryz.results152, go_sem, hc]) rfl ?_
  exact ⟨rfl, by go_grown⟩
end Go.Proofs.YtcahhahbcijkiaaGreat
