/- Operators whose low bits hang on the low bits alone: one contract for all of them, and the plain law. -/
import Derived.Test.YtjcmnhipiejnpaaK
namespace Go.Proofs.Ytjcmnhipiejnpaa
open Go.RowKit
set_option linter.unusedSimpArgs false
set_option linter.unusedVariables false

/-- The k-th operator from the and on: and, or, xor, nand, nor, xnor, sum, difference, product. -/
def lowop (k W n m : Nat) : Nat :=
  match k with
  | 0 => n &&& m
  | 1 => n ||| m
  | 2 => n ^^^ m
  | 3 => 2 ^ W - 1 - (n &&& m)
  | 4 => 2 ^ W - 1 - (n ||| m)
  | 5 => 2 ^ W - 1 - (n ^^^ m)
  | 6 => (n + m) % 2 ^ W
  | 7 => (n + neg W m) % 2 ^ W
  | _ => n * m % 2 ^ W

theorem lowop_lt {k W n m : Nat} (hn : n < 2 ^ W) (hm : m < 2 ^ W) : lowop k W n m < 2 ^ W := by
  have := Nat.two_pow_pos W
  unfold lowop
  split
  · exact Nat.lt_of_le_of_lt Nat.and_le_left hn
  · exact Nat.or_lt_two_pow hn hm
  · exact Nat.xor_lt_two_pow hn hm
  · omega
  · omega
  · omega
  · exact mod_lt_W _ _
  · exact mod_lt_W _ _
  · exact mod_lt_W _ _

theorem turn_low {W V x : Nat} (hV : V ≤ W) (hx : x < 2 ^ W) : (2 ^ W - 1 - x) % 2 ^ V = 2 ^ V - 1 - x % 2 ^ V := by
  apply Nat.eq_of_testBit_eq
  intro i
  have hW : 2 ^ W - 1 - x = 2 ^ W - (x + 1) := by omega
  have hx2 : x % 2 ^ V < 2 ^ V := mod_lt_W _ _
  have hV2 : 2 ^ V - 1 - x % 2 ^ V = 2 ^ V - (x % 2 ^ V + 1) := by omega
  rw [Nat.testBit_mod_two_pow, hW, hV2, Nat.testBit_two_pow_sub_succ hx, Nat.testBit_two_pow_sub_succ hx2, Nat.testBit_mod_two_pow]
  by_cases h : i < V
  · have : i < W := by omega
    simp [h, this]
  · simp [h]

theorem mod_low {W V : Nat} (hV : V ≤ W) (x : Nat) : x % 2 ^ W % 2 ^ V = x % 2 ^ V := Nat.mod_mod_of_dvd _ (Nat.pow_dvd_pow 2 hV)

theorem neg_low {W V m : Nat} (hV : V ≤ W) (hm : m < 2 ^ W) : neg W m % 2 ^ V = neg V (m % 2 ^ V) := by
  unfold neg
  rw [mod_low hV]
  have h1 := mod_lt_W m V
  obtain ⟨c, hc⟩ : ∃ c, 2 ^ W = 2 ^ V * c := Nat.pow_dvd_pow 2 hV
  have h2 := Nat.div_add_mod m (2 ^ V)
  have h3 : m / 2 ^ V < c := by
    rw [Nat.div_lt_iff_lt_mul (Nat.two_pow_pos V), Nat.mul_comm]; omega
  have e : 2 ^ W - m = (2 ^ V - m % 2 ^ V) + 2 ^ V * (c - 1 - m / 2 ^ V) := by
    rw [hc]
    obtain ⟨d, rfl⟩ : ∃ d, c = m / 2 ^ V + 1 + d := ⟨c - 1 - m / 2 ^ V, by omega⟩
    have e1 : m / 2 ^ V + 1 + d - 1 - m / 2 ^ V = d := by omega
    rw [e1]
    generalize hq : m / 2 ^ V = q at *
    rw [Nat.mul_add, Nat.mul_add, Nat.mul_one]
    omega
  rw [e, Nat.add_mul_mod_self_left]

theorem lowop_low {k W V n m : Nat} (hV : V ≤ W) (hn : n < 2 ^ W) (hm : m < 2 ^ W) : lowop k W n m % 2 ^ V = lowop k V (n % 2 ^ V) (m % 2 ^ V) := by
  have ha : (n &&& m) % 2 ^ V = n % 2 ^ V &&& m % 2 ^ V := Nat.and_mod_two_pow
  have ho : (n ||| m) % 2 ^ V = n % 2 ^ V ||| m % 2 ^ V := Nat.or_mod_two_pow
  have hx : (n ^^^ m) % 2 ^ V = n % 2 ^ V ^^^ m % 2 ^ V := Nat.xor_mod_two_pow
  unfold lowop
  split
  · exact ha
  · exact ho
  · exact hx
  · rw [turn_low hV (Nat.lt_of_le_of_lt Nat.and_le_left hn), ha]
  · rw [turn_low hV (Nat.or_lt_two_pow hn hm), ho]
  · rw [turn_low hV (Nat.xor_lt_two_pow hn hm), hx]
  · rw [mod_low hV, Nat.add_mod]
  · rw [mod_low hV, Nat.add_mod, neg_low hV hm]
  · rw [mod_low hV, Nat.mul_mod]

theorem do_low {W n m k : Nat} {op WW lo hi WW' lo' hi' : Int} (hop : op = 12 + (k : Int)) (hk : k ≤ 8) (hw : Wd WW lo hi W n) (hw' : Wd WW' lo' hi' W m) (w : World) :
    Calls Try.prog 34 #[.int .i64 op, .agg #[.int .i64 WW, .int .u64 lo, .int .u64 hi], .agg #[.int .i64 WW', .int .u64 lo', .int .u64 hi']] w fun e w' => e = .returned (.agg #[.int .i64 W, .int .u64 (LO (lowop k W n m)), .int .u64 (HI (lowop k W n m))]) ∧ Below w.heap.size w w' := by
  subst hop
  have : k = 0 ∨ k = 1 ∨ k = 2 ∨ k = 3 ∨ k = 4 ∨ k = 5 ∨ k = 6 ∨ k = 7 ∨ k = 8 := by omega
  rcases this with rfl | rfl | rfl | rfl | rfl | rfl | rfl | rfl | rfl
  · exact do_and hw hw' w
  · exact do_or hw hw' w
  · exact do_xor hw hw' w
  · exact do_nand hw hw' w
  · exact do_nor hw hw' w
  · exact do_xnor hw hw' w
  · exact do_add hw hw' w
  · exact do_sub hw hw' w
  · exact do_mul hw hw' w

theorem extract_low {W n v V : Nat} {WW lo hi vv : Int} (hw : Wd WW lo hi W n) (hv : vv = v) (hvW : v < W) (hV : V = v + 1) (w : World) :
    Calls Try.prog 21 #[.agg #[.int .i64 WW, .int .u64 lo, .int .u64 hi], .int .i64 vv, .int .i64 0] w fun e w' => e = .returned (.tuple #[.agg #[.int .i64 V, .int .u64 (LO (n % 2 ^ V)), .int .u64 (HI (n % 2 ^ V))], .int .i64 0]) ∧ Below w.heap.size w w' := by
  have h := extract_any (j := 0) (jj := 0) hw hv rfl (Nat.zero_le _) hvW w
  rw [Nat.pow_zero, Nat.div_one, Nat.sub_zero, show (v : Int) - ((0 : Nat) : Int) + 1 = ((v + 1 : Nat) : Int) by omega, ← hV] at h
  exact h
end Go.Proofs.Ytjcmnhipiejnpaa
