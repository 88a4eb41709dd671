/- The plain laws of BvLaws. -/
import Derived.Test.YtcfbabgffhfkdaaQ2
import Derived.Test.YtcfbabgffhfkdaaH
namespace Go.Proofs.Ytcfbabgffhfkdaa
open Go.RowKit
set_option linter.unusedSimpArgs false
set_option linter.unusedVariables false

theorem add_c (W a b : Nat) : lowop 6 W a b = lowop 6 W b a := by
  show (a + b) % 2 ^ W = (b + a) % 2 ^ W
  rw [Nat.add_comm]
theorem mul_c (W a b : Nat) : lowop 8 W a b = lowop 8 W b a := by
  show a * b % 2 ^ W = b * a % 2 ^ W
  rw [Nat.mul_comm]
theorem add_a (W a b c : Nat) : lowop 6 W (lowop 6 W a b) c = lowop 6 W a (lowop 6 W b c) := by
  show ((a + b) % 2 ^ W + c) % 2 ^ W = (a + (b + c) % 2 ^ W) % 2 ^ W
  rw [Nat.mod_add_mod, Nat.add_mod_mod, Nat.add_assoc]
theorem mul_a (W a b c : Nat) : lowop 8 W (lowop 8 W a b) c = lowop 8 W a (lowop 8 W b c) := by
  show (a * b % 2 ^ W * c) % 2 ^ W = (a * (b * c % 2 ^ W)) % 2 ^ W
  rw [Nat.mod_mul_mod, Nat.mul_mod_mod, Nat.mul_assoc]
theorem mul_d (W a b c : Nat) : lowop 8 W a (lowop 6 W b c) = lowop 6 W (lowop 8 W a b) (lowop 8 W a c) := by
  show (a * ((b + c) % 2 ^ W)) % 2 ^ W = (a * b % 2 ^ W + a * c % 2 ^ W) % 2 ^ W
  rw [Nat.mul_mod_mod, Nat.mod_add_mod, Nat.add_mod_mod, Nat.mul_add]
theorem sub_n (W a b : Nat) : lowop 7 W a b = lowop 6 W a (neg W b) := rfl
theorem neg_n {W a : Nat} (ha : a < 2 ^ W) : neg W a = lowop 6 W (2 ^ W - 1 - a) 1 := by
  show (2 ^ W - a) % 2 ^ W = (2 ^ W - 1 - a + 1) % 2 ^ W
  rw [show 2 ^ W - 1 - a + 1 = 2 ^ W - a by omega]
theorem bit_turn {W a i : Nat} (ha : a < 2 ^ W) : (2 ^ W - 1 - a).testBit i = (decide (i < W) && !a.testBit i) := by
  rw [show 2 ^ W - 1 - a = 2 ^ W - (a + 1) by omega, Nat.testBit_two_pow_sub_succ ha]
theorem bit_out {W a i : Nat} (ha : a < 2 ^ W) (hi : ¬ i < W) : a.testBit i = false :=
  Nat.testBit_lt_two_pow (Nat.lt_of_lt_of_le ha (Nat.pow_le_pow_right (by decide) (by omega)))
theorem nand_n {W a b : Nat} (ha : a < 2 ^ W) (hb : b < 2 ^ W) : lowop 3 W a b = lowop 1 W (2 ^ W - 1 - a) (2 ^ W - 1 - b) := by
  show 2 ^ W - 1 - (a &&& b) = (2 ^ W - 1 - a) ||| (2 ^ W - 1 - b)
  apply Nat.eq_of_testBit_eq; intro i
  rw [bit_turn (Nat.lt_of_le_of_lt Nat.and_le_left ha), Nat.testBit_or, bit_turn ha, bit_turn hb, Nat.testBit_and]
  by_cases h : i < W <;> simp [h]
theorem nor_n {W a b : Nat} (ha : a < 2 ^ W) (hb : b < 2 ^ W) : lowop 4 W a b = lowop 0 W (2 ^ W - 1 - a) (2 ^ W - 1 - b) := by
  show 2 ^ W - 1 - (a ||| b) = (2 ^ W - 1 - a) &&& (2 ^ W - 1 - b)
  apply Nat.eq_of_testBit_eq; intro i
  rw [bit_turn (Nat.or_lt_two_pow ha hb), Nat.testBit_and, bit_turn ha, bit_turn hb, Nat.testBit_or]
  by_cases h : i < W <;> simp [h]
theorem xnor_n (W a b : Nat) : lowop 5 W a b = 2 ^ W - 1 - lowop 2 W a b := rfl
theorem xor_b (W a b : Nat) : lowop 2 W (lowop 2 W a b) b = a := by
  show (a ^^^ b) ^^^ b = a
  rw [Nat.xor_assoc, Nat.xor_self, Nat.xor_zero]
theorem and_or (a : Nat) : ∀ b, (a &&& b) + (a ||| b) = a + b := by
  induction a using Nat.strongRecOn with
  | _ a ih =>
    intro b
    by_cases h0 : a = 0
    · subst h0; simp
    · have h := ih (a / 2) (by omega) (b / 2)
      have e1 : (a &&& b) / 2 = a / 2 &&& b / 2 := by rw [Nat.and_div_two]
      have e2 : (a ||| b) / 2 = a / 2 ||| b / 2 := by rw [Nat.or_div_two]
      have e3 : (a &&& b) % 2 = (a % 2) * (b % 2) := by
        rw [Nat.and_mod_two_pow (n := 1) (a := a) (b := b)]
        rcases Nat.mod_two_eq_zero_or_one a with x | x <;> rcases Nat.mod_two_eq_zero_or_one b with y | y <;> simp [x, y]
      have e4 : (a ||| b) % 2 + (a % 2) * (b % 2) = a % 2 + b % 2 := by
        rw [Nat.or_mod_two_pow (n := 1) (a := a) (b := b)]
        rcases Nat.mod_two_eq_zero_or_one a with x | x <;> rcases Nat.mod_two_eq_zero_or_one b with y | y <;> simp [x, y]
      have d1 := Nat.div_add_mod (a &&& b) 2
      have d2 := Nat.div_add_mod (a ||| b) 2
      have d3 := Nat.div_add_mod a 2
      have d4 := Nat.div_add_mod b 2
      rw [e1, e3] at d1
      rw [e2] at d2
      generalize (a % 2) * (b % 2) = p at *
      omega
theorem and_or_w (W a b : Nat) : lowop 6 W (lowop 0 W a b) (lowop 1 W a b) = lowop 6 W a b := by
  show ((a &&& b) + (a ||| b)) % 2 ^ W = (a + b) % 2 ^ W
  rw [and_or]
end Go.Proofs.Ytcfbabgffhfkdaa
