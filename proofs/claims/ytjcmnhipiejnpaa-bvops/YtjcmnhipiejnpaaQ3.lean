/- Shifts: one contract for all three, and the plain laws. -/
import Derived.Test.YtjcmnhipiejnpaaQ2
namespace Go.Proofs.Ytjcmnhipiejnpaa
open Go.RowKit
set_option linter.unusedSimpArgs false
set_option linter.unusedVariables false

/-- The k-th shift (up, down, down with the sign) by d. -/
def sh (k W n d : Nat) : Nat :=
  match k with
  | 0 => n * 2 ^ d % 2 ^ W
  | 1 => n / 2 ^ d
  | _ => if n.testBit (W - 1) then 2 ^ W - 1 - (2 ^ W - 1 - n) / 2 ^ d else n / 2 ^ d

theorem sh_lt {k W n d : Nat} (hn : n < 2 ^ W) : sh k W n d < 2 ^ W := by
  have := Nat.two_pow_pos W
  have h2 := Nat.lt_of_le_of_lt (Nat.div_le_self n (2 ^ d)) hn
  unfold sh
  split
  · exact mod_lt_W _ _
  · exact h2
  · split
    · exact turn_lt _ W
    · exact h2

theorem do_sh {W n m k : Nat} {op WW lo hi WW' lo' hi' : Int} (hop : op = 26 + (k : Int)) (hk : k ≤ 2) (hw : Wd WW lo hi W n) (hw' : Wd WW' lo' hi' W m) (w : World) :
    Calls Try.prog 34 #[.int .i64 op, .agg #[.int .i64 WW, .int .u64 lo, .int .u64 hi], .agg #[.int .i64 WW', .int .u64 lo', .int .u64 hi']] w fun e w' => e = .returned (.agg #[.int .i64 W, .int .u64 (LO (sh k W n (dist m W))), .int .u64 (HI (sh k W n (dist m W)))]) ∧ Below w.heap.size w w' := by
  subst hop
  have : k = 0 ∨ k = 1 ∨ k = 2 := by omega
  rcases this with rfl | rfl | rfl
  · exact do_shl hw hw' w
  · exact do_lshr hw hw' w
  · have e : sh 2 W n (dist m W) = if n.testBit (W - 1) then 2 ^ W - 1 - (2 ^ W - 1 - n) / 2 ^ dist m W else n / 2 ^ dist m W := rfl
    cases h : n.testBit (W - 1)
    · rw [e, h]; exact do_ashr0 hw hw' h w
    · rw [e, h]; exact do_ashr1 hw hw' h w

theorem div_far {n d W : Nat} (hn : n < 2 ^ W) (hd : W ≤ d) : n / 2 ^ d = 0 :=
  Nat.div_eq_of_lt (Nat.lt_of_lt_of_le hn (Nat.pow_le_pow_right (by decide) hd))

theorem div_min {n d W : Nat} (hn : n < 2 ^ W) : n / 2 ^ min d W = n / 2 ^ d := by
  by_cases h : d ≤ W
  · rw [Nat.min_eq_left h]
  · rw [Nat.min_eq_right (by omega), div_far hn (Nat.le_refl _), div_far hn (by omega)]

theorem up_min {n d W : Nat} : n * 2 ^ min d W % 2 ^ W = n * 2 ^ d % 2 ^ W := by
  by_cases h : d ≤ W
  · rw [Nat.min_eq_left h]
  · have h3 : 2 ^ d = 2 ^ W * 2 ^ (d - W) := by rw [← Nat.pow_add]; congr 1; omega
    rw [Nat.min_eq_right (by omega), Nat.mul_mod_left, h3, ← Nat.mul_assoc, Nat.mul_comm n, Nat.mul_assoc, Nat.mul_mod_right]

theorem top_keep {W n d : Nat} (h1 : 1 ≤ W) (hn : n < 2 ^ W) (ht : n.testBit (W - 1) = true) : (2 ^ W - 1 - (2 ^ W - 1 - n) / 2 ^ d).testBit (W - 1) = true := by
  rw [testBit_top h1 (turn_lt _ W), decide_eq_true_eq]
  rw [testBit_top h1 hn, decide_eq_true_eq] at ht
  have := pow_pred h1
  have := Nat.div_le_self (2 ^ W - 1 - n) (2 ^ d)
  omega
theorem top_keep0 {W n d : Nat} (h1 : 1 ≤ W) (hn : n < 2 ^ W) (ht : n.testBit (W - 1) = false) : (n / 2 ^ d).testBit (W - 1) = false := by
  have h3 := Nat.div_le_self n (2 ^ d)
  rw [testBit_top h1 (Nat.lt_of_le_of_lt h3 hn), decide_eq_false_iff_not]
  rw [testBit_top h1 hn, decide_eq_false_iff_not] at ht
  omega

theorem sh_twice {k W n d e : Nat} (h1 : 1 ≤ W) (hn : n < 2 ^ W) : sh k W (sh k W n d) e = sh k W n (min (d + e) W) := by
  match k with
  | 0 =>
    show n * 2 ^ d % 2 ^ W * 2 ^ e % 2 ^ W = n * 2 ^ min (d + e) W % 2 ^ W
    rw [up_min, Nat.mod_mul_mod, Nat.mul_assoc, ← Nat.pow_add]
  | 1 =>
    show n / 2 ^ d / 2 ^ e = n / 2 ^ min (d + e) W
    rw [div_min hn, Nat.div_div_eq_div_mul, ← Nat.pow_add]
  | k + 2 =>
    have hc : 2 ^ W - 1 - n < 2 ^ W := turn_lt n W
    have E : ∀ x y, sh (k + 2) W x y = if x.testBit (W - 1) then 2 ^ W - 1 - (2 ^ W - 1 - x) / 2 ^ y else x / 2 ^ y := fun _ _ => rfl
    rw [E, E n, E n]
    cases ht : n.testBit (W - 1)
    · simp only [Bool.false_eq_true, if_false]
      rw [top_keep0 h1 hn ht]
      simp only [Bool.false_eq_true, if_false]
      rw [div_min hn, Nat.div_div_eq_div_mul, ← Nat.pow_add]
    · simp only [if_true]
      rw [top_keep h1 hn ht]
      simp only [if_true]
      have h3 := Nat.lt_of_le_of_lt (Nat.div_le_self (2 ^ W - 1 - n) (2 ^ d)) hc
      have h4 : 2 ^ W - 1 - (2 ^ W - 1 - (2 ^ W - 1 - n) / 2 ^ d) = (2 ^ W - 1 - n) / 2 ^ d := by
        generalize (2 ^ W - 1 - n) / 2 ^ d = q at *
        omega
      rw [div_min hc, h4, Nat.div_div_eq_div_mul, ← Nat.pow_add]

/-- What is left where a shift goes too far: nothing, or the sign. -/
def far (k W n : Nat) : Nat := if k = 2 ∧ n.testBit (W - 1) = true then 2 ^ W - 1 else 0
theorem sh_far {k W n d : Nat} (hk : k ≤ 2) (hn : n < 2 ^ W) (hd : W ≤ d) : sh k W n d = far k W n := by
  have : k = 0 ∨ k = 1 ∨ k = 2 := by omega
  rcases this with rfl | rfl | rfl
  · have h3 : 2 ^ d = 2 ^ W * 2 ^ (d - W) := by rw [← Nat.pow_add]; congr 1; omega
    show n * 2 ^ d % 2 ^ W = _
    rw [h3, ← Nat.mul_assoc, Nat.mul_comm n, Nat.mul_assoc, Nat.mul_mod_right]; simp [far]
  · show n / 2 ^ d = _
    rw [div_far hn hd]; simp [far]
  · show (if n.testBit (W - 1) then _ else _) = _
    rw [div_far hn hd, div_far (turn_lt n W) hd]
    simp [far]

theorem dist_small {W k : Nat} (h : k ≤ W) : dist (k % 2 ^ W) W = k := by
  have : k < 2 ^ W := Nat.lt_of_le_of_lt h Nat.lt_two_pow_self
  rw [Nat.mod_eq_of_lt this]; unfold dist; omega
theorem dist_ones {W : Nat} (h1 : 1 ≤ W) : dist (2 ^ W - 1) W = W := by
  have : W < 2 ^ W := Nat.lt_two_pow_self
  unfold dist; omega

theorem small_le {W k : Nat} {WW kk : Int} (h1 : 1 ≤ W) (h2 : W ≤ 128) (hw : WW = W) (hk : kk = k) (hkW : k ≤ W) (w : World) :
    Calls Try.prog 37 #[.int .i64 WW, .int .i64 kk] w fun e w' => e = .returned (.agg #[.int .i64 W, .int .u64 (LO (k)), .int .u64 (HI (k))]) ∧ Below w.heap.size w w' := by
  have h := small_any h1 h2 hw hk (by omega) w
  rw [Nat.mod_eq_of_lt (Nat.lt_of_le_of_lt hkW Nat.lt_two_pow_self)] at h
  exact h

theorem do_shle {W n m k : Nat} {op WW lo hi WW' lo' hi' : Int} (hop : op = 26 + (k : Int)) (hk : k ≤ 2) (hw : Wd WW lo hi W n) (hw' : Wd WW' lo' hi' W m) (hm : m ≤ W) (w : World) :
    Calls Try.prog 34 #[.int .i64 op, .agg #[.int .i64 WW, .int .u64 lo, .int .u64 hi], .agg #[.int .i64 WW', .int .u64 lo', .int .u64 hi']] w fun e w' => e = .returned (.agg #[.int .i64 W, .int .u64 (LO (sh k W n m)), .int .u64 (HI (sh k W n m))]) ∧ Below w.heap.size w w' := by
  have h := do_sh hop hk hw hw' w
  rw [show dist m W = m by unfold dist; omega] at h
  exact h

theorem do_shfar {W n m k F : Nat} {op WW lo hi WW' lo' hi' : Int} (hop : op = 26 + (k : Int)) (hk : k ≤ 2) (hw : Wd WW lo hi W n) (hw' : Wd WW' lo' hi' W m) (hm : W ≤ m) (hF : far k W n = F) (w : World) :
    Calls Try.prog 34 #[.int .i64 op, .agg #[.int .i64 WW, .int .u64 lo, .int .u64 hi], .agg #[.int .i64 WW', .int .u64 lo', .int .u64 hi']] w fun e w' => e = .returned (.agg #[.int .i64 W, .int .u64 (LO (F)), .int .u64 (HI (F))]) ∧ Below w.heap.size w w' := by
  have h := do_sh hop hk hw hw' w
  rw [show dist m W = W by unfold dist; omega, sh_far hk hw.lt (Nat.le_refl W), hF] at h
  exact h
theorem min_wrap {W a b q : Nat} (h : q = min (a + b) W) (ha : a ≤ W) (hb : b ≤ W) (hW : W ≤ 128) : (if (W : Int) < IntKind.i64.wrap ((a : Int) + b) then (W : Int) else IntKind.i64.wrap ((a : Int) + b)) = q := by
  rw [wrap_nat (m := a + b) (by omega) (by omega)]
  split <;> omega
theorem rot_or {W n v : Nat} (hv : v < W) : rot W n (v % W) = sh 0 W n v ||| sh 1 W n (W - v) := by
  rw [Nat.mod_eq_of_lt hv]; rfl
theorem ones_ge {W : Nat} : W ≤ 2 ^ W - 1 - 0 := by
  have : W < 2 ^ W := Nat.lt_two_pow_self
  omega
theorem small_lt {W k : Nat} (h : k ≤ W) : k < 2 ^ W := Nat.lt_of_le_of_lt h Nat.lt_two_pow_self
end Go.Proofs.Ytjcmnhipiejnpaa
