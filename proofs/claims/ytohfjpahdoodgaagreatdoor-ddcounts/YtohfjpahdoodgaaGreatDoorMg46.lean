/- What signed quotients and rests are; small facts on cells. -/
import Derived.Test.YtohfjpahdoodgaaGreatDoorMg44
namespace Go.Proofs.YtohfjpahdoodgaaGreatDoor.Ag
open Go.RowKit
set_option linter.unusedSimpArgs false
set_option linter.unusedVariables false

def sdiv (W n m : Nat) : Nat := if n.testBit (W - 1) != m.testBit (W - 1) then neg W (udiv W (wsign W n n) (wsign W m m)) else udiv W (wsign W n n) (wsign W m m)
def srem (W n m : Nat) : Nat := wsign W n (urem (wsign W n n) (wsign W m m))
def smod (W n m : Nat) : Nat := if urem (wsign W n n) (wsign W m m) ≠ 0 ∧ (n.testBit (W - 1) != m.testBit (W - 1)) = true then (wsign W n (urem (wsign W n n) (wsign W m m)) + m) % 2 ^ W else wsign W n (urem (wsign W n n) (wsign W m m))
theorem cell_set {w : World} {a : Addr} {v : Value} (h : (w.cell? a).isSome = true) : (w.setCell a v).cell? a = some v := by
  obtain ⟨u, hu⟩ := Option.isSome_iff_exists.1 h
  exact World.cell?_setCell_same _ _ _ hu
theorem below_lt {W w1 : World} (hb : Below W.heap.size W w1) : ∀ b, b < W.heap.size → b < w1.heap.size := fun b h => Nat.lt_of_lt_of_le h hb.size

end Go.Proofs.YtohfjpahdoodgaaGreatDoor.Ag

/- Contracts: concatenation, extraction, extension, rotation, a bit, a new word, complement and negation. -/
namespace Go.Proofs.YtohfjpahdoodgaaGreatDoor.Ag
open Go.RowKit
set_option linter.unusedSimpArgs false
set_option linter.unusedVariables false

end Go.Proofs.YtohfjpahdoodgaaGreatDoor.Ag

/- Contracts: operators on two words that answer a word, as the program's face tells them, and as the laws ask for them. -/
namespace Go.Proofs.YtohfjpahdoodgaaGreatDoor.Ag
open Go.RowKit
set_option linter.unusedSimpArgs false
set_option linter.unusedVariables false

end Go.Proofs.YtohfjpahdoodgaaGreatDoor.Ag

/- Operators whose low bits hang on the low bits alone: one contract for all of them, and the plain law. -/
namespace Go.Proofs.YtohfjpahdoodgaaGreatDoor.Ag
open Go.RowKit
set_option linter.unusedSimpArgs false
set_option linter.unusedVariables false

/-- The k-th operator from the and on: and, or, xor, nand, nor, xnor, sum, difference, product. -/
def lowop (k W n m : Nat) : Nat :=
  match k with
  | 0 => n &&& m
  | 1 => n ||| m
  | 2 => n ^^^ m
  | 3 => 2 ^ W - 1 - (n &&& m)
  | 4 => 2 ^ W - 1 - (n ||| m)
  | 5 => 2 ^ W - 1 - (n ^^^ m)
  | 6 => (n + m) % 2 ^ W
  | 7 => (n + neg W m) % 2 ^ W
  | _ => n * m % 2 ^ W

theorem lowop_lt {k W n m : Nat} (hn : n < 2 ^ W) (hm : m < 2 ^ W) : lowop k W n m < 2 ^ W := by
  have := Nat.two_pow_pos W
  unfold lowop
  split
  · exact Nat.lt_of_le_of_lt Nat.and_le_left hn
  · exact Nat.or_lt_two_pow hn hm
  · exact Nat.xor_lt_two_pow hn hm
  · omega
  · omega
  · omega
  · exact mod_lt_W _ _
  · exact mod_lt_W _ _
  · exact mod_lt_W _ _

theorem turn_low {W V x : Nat} (hV : V ≤ W) (hx : x < 2 ^ W) : (2 ^ W - 1 - x) % 2 ^ V = 2 ^ V - 1 - x % 2 ^ V := by
  apply Nat.eq_of_testBit_eq
  intro i
  have hW : 2 ^ W - 1 - x = 2 ^ W - (x + 1) := by omega
  have hx2 : x % 2 ^ V < 2 ^ V := mod_lt_W _ _
  have hV2 : 2 ^ V - 1 - x % 2 ^ V = 2 ^ V - (x % 2 ^ V + 1) := by omega
  rw [Nat.testBit_mod_two_pow, hW, hV2, Nat.testBit_two_pow_sub_succ hx, Nat.testBit_two_pow_sub_succ hx2, Nat.testBit_mod_two_pow]
  by_cases h : i < V
  · have : i < W := by omega
    simp [h, this]
  · simp [h]

theorem mod_low {W V : Nat} (hV : V ≤ W) (x : Nat) : x % 2 ^ W % 2 ^ V = x % 2 ^ V := Nat.mod_mod_of_dvd _ (Nat.pow_dvd_pow 2 hV)

theorem neg_low {W V m : Nat} (hV : V ≤ W) (hm : m < 2 ^ W) : neg W m % 2 ^ V = neg V (m % 2 ^ V) := by
  unfold neg
  rw [mod_low hV]
  have h1 := mod_lt_W m V
  obtain ⟨c, hc⟩ : ∃ c, 2 ^ W = 2 ^ V * c := Nat.pow_dvd_pow 2 hV
  have h2 := Nat.div_add_mod m (2 ^ V)
  have h3 : m / 2 ^ V < c := by
    rw [Nat.div_lt_iff_lt_mul (Nat.two_pow_pos V), Nat.mul_comm]; omega
  have e : 2 ^ W - m = (2 ^ V - m % 2 ^ V) + 2 ^ V * (c - 1 - m / 2 ^ V) := by
    rw [hc]
    obtain ⟨d, rfl⟩ : ∃ d, c = m / 2 ^ V + 1 + d := ⟨c - 1 - m / 2 ^ V, by omega⟩
    have e1 : m / 2 ^ V + 1 + d - 1 - m / 2 ^ V = d := by omega
    rw [e1]
    generalize hq : m / 2 ^ V = q at *
    rw [Nat.mul_add, Nat.mul_add, Nat.mul_one]
    omega
  rw [e, Nat.add_mul_mod_self_left]

theorem lowop_low {k W V n m : Nat} (hV : V ≤ W) (hn : n < 2 ^ W) (hm : m < 2 ^ W) : lowop k W n m % 2 ^ V = lowop k V (n % 2 ^ V) (m % 2 ^ V) := by
  have ha : (n &&& m) % 2 ^ V = n % 2 ^ V &&& m % 2 ^ V := Nat.and_mod_two_pow
  have ho : (n ||| m) % 2 ^ V = n % 2 ^ V ||| m % 2 ^ V := Nat.or_mod_two_pow
  have hx : (n ^^^ m) % 2 ^ V = n % 2 ^ V ^^^ m % 2 ^ V := Nat.xor_mod_two_pow
  unfold lowop
  split
  · exact ha
  · exact ho
  · exact hx
  · rw [turn_low hV (Nat.lt_of_le_of_lt Nat.and_le_left hn), ha]
  · rw [turn_low hV (Nat.or_lt_two_pow hn hm), ho]
  · rw [turn_low hV (Nat.xor_lt_two_pow hn hm), hx]
  · rw [mod_low hV, Nat.add_mod]
  · rw [mod_low hV, Nat.add_mod, neg_low hV hm]
  · rw [mod_low hV, Nat.mul_mod]

end Go.Proofs.YtohfjpahdoodgaaGreatDoor.Ag

/- Shifts: one contract for all three, and the plain laws. -/
namespace Go.Proofs.YtohfjpahdoodgaaGreatDoor.Ag
open Go.RowKit
set_option linter.unusedSimpArgs false
set_option linter.unusedVariables false

/-- The k-th shift (up, down, down with the sign) by d. -/
def sh (k W n d : Nat) : Nat :=
  match k with
  | 0 => n * 2 ^ d % 2 ^ W
  | 1 => n / 2 ^ d
  | _ => if n.testBit (W - 1) then 2 ^ W - 1 - (2 ^ W - 1 - n) / 2 ^ d else n / 2 ^ d

theorem sh_lt {k W n d : Nat} (hn : n < 2 ^ W) : sh k W n d < 2 ^ W := by
  have := Nat.two_pow_pos W
  have h2 := Nat.lt_of_le_of_lt (Nat.div_le_self n (2 ^ d)) hn
  unfold sh
  split
  · exact mod_lt_W _ _
  · exact h2
  · split
    · exact turn_lt _ W
    · exact h2

theorem div_far {n d W : Nat} (hn : n < 2 ^ W) (hd : W ≤ d) : n / 2 ^ d = 0 :=
  Nat.div_eq_of_lt (Nat.lt_of_lt_of_le hn (Nat.pow_le_pow_right (by decide) hd))

theorem div_min {n d W : Nat} (hn : n < 2 ^ W) : n / 2 ^ min d W = n / 2 ^ d := by
  by_cases h : d ≤ W
  · rw [Nat.min_eq_left h]
  · rw [Nat.min_eq_right (by omega), div_far hn (Nat.le_refl _), div_far hn (by omega)]

theorem up_min {n d W : Nat} : n * 2 ^ min d W % 2 ^ W = n * 2 ^ d % 2 ^ W := by
  by_cases h : d ≤ W
  · rw [Nat.min_eq_left h]
  · have h3 : 2 ^ d = 2 ^ W * 2 ^ (d - W) := by rw [← Nat.pow_add]; congr 1; omega
    rw [Nat.min_eq_right (by omega), Nat.mul_mod_left, h3, ← Nat.mul_assoc, Nat.mul_comm n, Nat.mul_assoc, Nat.mul_mod_right]

theorem top_keep {W n d : Nat} (h1 : 1 ≤ W) (hn : n < 2 ^ W) (ht : n.testBit (W - 1) = true) : (2 ^ W - 1 - (2 ^ W - 1 - n) / 2 ^ d).testBit (W - 1) = true := by
  rw [testBit_top h1 (turn_lt _ W), decide_eq_true_eq]
  rw [testBit_top h1 hn, decide_eq_true_eq] at ht
  have := pow_pred h1
  have := Nat.div_le_self (2 ^ W - 1 - n) (2 ^ d)
  omega
theorem top_keep0 {W n d : Nat} (h1 : 1 ≤ W) (hn : n < 2 ^ W) (ht : n.testBit (W - 1) = false) : (n / 2 ^ d).testBit (W - 1) = false := by
  have h3 := Nat.div_le_self n (2 ^ d)
  rw [testBit_top h1 (Nat.lt_of_le_of_lt h3 hn), decide_eq_false_iff_not]
  rw [testBit_top h1 hn, decide_eq_false_iff_not] at ht
  omega

theorem sh_twice {k W n d e : Nat} (h1 : 1 ≤ W) (hn : n < 2 ^ W) : sh k W (sh k W n d) e = sh k W n (min (d + e) W) := by
  match k with
  | 0 =>
    show n * 2 ^ d % 2 ^ W * 2 ^ e % 2 ^ W = n * 2 ^ min (d + e) W % 2 ^ W
    rw [up_min, Nat.mod_mul_mod, Nat.mul_assoc, ← Nat.pow_add]
  | 1 =>
    show n / 2 ^ d / 2 ^ e = n / 2 ^ min (d + e) W
    rw [div_min hn, Nat.div_div_eq_div_mul, ← Nat.pow_add]
  | k + 2 =>
    have hc : 2 ^ W - 1 - n < 2 ^ W := turn_lt n W
    have E : ∀ x y, sh (k + 2) W x y = if x.testBit (W - 1) then 2 ^ W - 1 - (2 ^ W - 1 - x) / 2 ^ y else x / 2 ^ y := fun _ _ => rfl
    rw [E, E n, E n]
    cases ht : n.testBit (W - 1)
    · simp only [Bool.false_eq_true, if_false]
      rw [top_keep0 h1 hn ht]
      simp only [Bool.false_eq_true, if_false]
      rw [div_min hn, Nat.div_div_eq_div_mul, ← Nat.pow_add]
    · simp only [if_true]
      rw [top_keep h1 hn ht]
      simp only [if_true]
      have h3 := Nat.lt_of_le_of_lt (Nat.div_le_self (2 ^ W - 1 - n) (2 ^ d)) hc
      have h4 : 2 ^ W - 1 - (2 ^ W - 1 - (2 ^ W - 1 - n) / 2 ^ d) = (2 ^ W - 1 - n) / 2 ^ d := by
        generalize (2 ^ W - 1 - n) / 2 ^ d = q at *
        omega
      rw [div_min hc, h4, Nat.div_div_eq_div_mul, ← Nat.pow_add]

/-- What is left where a shift goes too far: nothing, or the sign. -/
def far (k W n : Nat) : Nat := if k = 2 ∧ n.testBit (W - 1) = true then 2 ^ W - 1 else 0
theorem sh_far {k W n d : Nat} (hk : k ≤ 2) (hn : n < 2 ^ W) (hd : W ≤ d) : sh k W n d = far k W n := by
  have : k = 0 ∨ k = 1 ∨ k = 2 := by omega
  rcases this with rfl | rfl | rfl
  · have h3 : 2 ^ d = 2 ^ W * 2 ^ (d - W) := by rw [← Nat.pow_add]; congr 1; omega
    show n * 2 ^ d % 2 ^ W = _
    rw [h3, ← Nat.mul_assoc, Nat.mul_comm n, Nat.mul_assoc, Nat.mul_mod_right]; simp [far]
  · show n / 2 ^ d = _
    rw [div_far hn hd]; simp [far]
  · show (if n.testBit (W - 1) then _ else _) = _
    rw [div_far hn hd, div_far (turn_lt n W) hd]
    simp [far]

theorem dist_small {W k : Nat} (h : k ≤ W) : dist (k % 2 ^ W) W = k := by
  have : k < 2 ^ W := Nat.lt_of_le_of_lt h Nat.lt_two_pow_self
  rw [Nat.mod_eq_of_lt this]; unfold dist; omega
theorem dist_ones {W : Nat} (h1 : 1 ≤ W) : dist (2 ^ W - 1) W = W := by
  have : W < 2 ^ W := Nat.lt_two_pow_self
  unfold dist; omega

theorem min_wrap {W a b q : Nat} (h : q = min (a + b) W) (ha : a ≤ W) (hb : b ≤ W) (hW : W ≤ 128) : (if (W : Int) < IntKind.i64.wrap ((a : Int) + b) then (W : Int) else IntKind.i64.wrap ((a : Int) + b)) = q := by
  rw [wrap_nat (m := a + b) (by omega) (by omega)]
  split <;> omega
theorem rot_or {W n v : Nat} (hv : v < W) : rot W n (v % W) = sh 0 W n v ||| sh 1 W n (W - v) := by
  rw [Nat.mod_eq_of_lt hv]; rfl
theorem ones_ge {W : Nat} : W ≤ 2 ^ W - 1 - 0 := by
  have : W < 2 ^ W := Nat.lt_two_pow_self
  omega
theorem small_lt {W k : Nat} (h : k ≤ W) : k < 2 ^ W := Nat.lt_of_le_of_lt h Nat.lt_two_pow_self
end Go.Proofs.YtohfjpahdoodgaaGreatDoor.Ag
