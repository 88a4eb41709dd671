/- Extension: one contract for both, and the plain laws. -/
import Derived.Test.YtcfbabgffhfkdabQ2
import Derived.Test.YtcfbabgffhfkdabO
namespace Go.Proofs.Ytcfbabgffhfkdab
open Go.RowKit
set_option linter.unusedSimpArgs false
set_option linter.unusedVariables false

/-- A word n of W bits by u bits wider: with the sign where k is 1. -/
def ext (k W n u : Nat) : Nat := if k = 1 ∧ n.testBit (W - 1) = true then wide W n u else n

theorem wide_val {W n u : Nat} (hn : n < 2 ^ W) : wide W n u = 2 ^ (W + u) - 2 ^ W + n := by
  have := @pow_le_add W u
  unfold wide; omega
theorem ext_lt {k W n u : Nat} (hn : n < 2 ^ W) : ext k W n u < 2 ^ (W + u) := by
  unfold ext
  split
  · exact wide_lt W n u
  · exact Nat.lt_of_lt_of_le hn pow_le_add
theorem ext_low {k W n u : Nat} (hn : n < 2 ^ W) : ext k W n u % 2 ^ W = n := by
  unfold ext
  split
  · rw [wide_val hn]
    have h1 : 2 ^ (W + u) - 2 ^ W = 2 ^ W * (2 ^ u - 1) := by rw [Nat.pow_add, Nat.mul_sub, Nat.mul_one]
    rw [h1, Nat.mul_add_mod, Nat.mod_eq_of_lt hn]
  · exact Nat.mod_eq_of_lt hn

/-- The signed number. -/
def sgn (W n : Nat) : Int := if n.testBit (W - 1) then (n : Int) - ((2 ^ W : Nat) : Int) else n
theorem top_sgn {W n : Nat} (h1 : 1 ≤ W) (hn : n < 2 ^ W) : ((top W n : Nat) : Int) = sgn W n + ((2 ^ (W - 1) : Nat) : Int) := by
  have hp := pow_pred h1
  have hb := testBit_top h1 hn
  unfold top sgn
  cases hc : n.testBit (W - 1)
  · rw [hc] at hb
    have hb2 : ¬ 2 ^ (W - 1) ≤ n := by simpa using hb.symm
    have e : n ^^^ 2 ^ (W - 1) = n + 2 ^ (W - 1) := by
      rw [add_or (x := n) (k := W - 1) (by omega)]
      apply Nat.eq_of_testBit_eq; intro i
      rw [Nat.testBit_or, Nat.testBit_xor, Nat.testBit_two_pow]
      by_cases hi : W - 1 = i
      · subst hi; rw [hc]; simp
      · simp [hi]
    rw [e]
    simp
  · rw [hc] at hb
    have hb2 : 2 ^ (W - 1) ≤ n := by simpa using hb.symm
    obtain ⟨r, hr⟩ : ∃ r, n = r + 2 ^ (W - 1) := ⟨n - 2 ^ (W - 1), by omega⟩
    have hr2 : r < 2 ^ (W - 1) := by omega
    have e : n ^^^ 2 ^ (W - 1) = r := by
      rw [hr, add_or hr2]
      apply Nat.eq_of_testBit_eq; intro i
      rw [Nat.testBit_xor, Nat.testBit_or, Nat.testBit_two_pow]
      by_cases hi : W - 1 = i
      · subst hi; rw [Nat.testBit_lt_two_pow hr2]; simp
      · simp [hi]
    rw [e]
    simp only [if_true]
    omega
theorem ext_top {k W n u : Nat} (h1 : 1 ≤ W) (hn : n < 2 ^ W) : (ext k W n u).testBit (W + u - 1) = (n.testBit (W - 1) && (decide (k = 1) || decide (u = 0))) := by
  have hV : 1 ≤ W + u := by omega
  rw [testBit_top hV (ext_lt hn)]
  have hb := testBit_top h1 hn
  have hp := pow_pred h1
  have hq := pow_pred hV
  by_cases hc : k = 1 ∧ n.testBit (W - 1) = true
  · have e : ext k W n u = 2 ^ (W + u) - 2 ^ W + n := by unfold ext; rw [if_pos hc, wide_val hn]
    rw [hc.2] at hb
    have hb2 : 2 ^ (W - 1) ≤ n := by simpa using hb.symm
    rw [e, hc.2, hc.1]
    have hle : 2 ^ W ≤ 2 ^ (W + u) := pow_le_add
    have hlt : 2 ^ (W + u - 1) ≥ 2 ^ (W - 1) := Nat.pow_le_pow_right (by decide) (by omega)
    simp only [decide_true, Bool.true_or, Bool.and_true, decide_eq_true_eq]
    omega
  · have e : ext k W n u = n := by unfold ext; rw [if_neg hc]
    rw [e]
    by_cases hu : u = 0
    · subst hu
      rw [Nat.add_zero, ← hb]; simp
    · have hle : 2 ^ W ≤ 2 ^ (W + u - 1) := Nat.pow_le_pow_right (by decide) (by omega)
      have : ¬ 2 ^ (W + u - 1) ≤ n := by omega
      rw [decide_eq_false this]
      cases ht : n.testBit (W - 1)
      · rfl
      · have : ¬ k = 1 := fun h => hc ⟨h, ht⟩
        simp [this, hu]
theorem ext_sgn {W n u : Nat} (h1 : 1 ≤ W) (hn : n < 2 ^ W) : sgn (W + u) (ext 1 W n u) = sgn W n := by
  unfold sgn
  rw [ext_top h1 hn]
  cases hc : n.testBit (W - 1)
  · simp [ext, hc]
  · have e : ext 1 W n u = 2 ^ (W + u) - 2 ^ W + n := by unfold ext; rw [if_pos ⟨rfl, hc⟩, wide_val hn]
    have hle : 2 ^ W ≤ 2 ^ (W + u) := pow_le_add
    rw [e]
    simp only [decide_true, Bool.true_or, Bool.and_true, if_true]
    omega
theorem ltB_int {a b c d : Nat} {z : Int} (h1 : (a : Int) - c = z) (h2 : (b : Int) - d = z) : ltB a b = ltB c d := by
  unfold ltB; congr 1; apply propext; omega
theorem ext_slt {W n m u : Nat} (h1 : 1 ≤ W) (hn : n < 2 ^ W) (hm : m < 2 ^ W) : cmpv 4 (W + u) (ext 1 W n u) (ext 1 W m u) = cmpv 4 W n m := by
  have a1 := top_sgn (W := W + u) (by omega) (ext_lt (k := 1) (u := u) hn)
  have a2 := top_sgn (W := W + u) (by omega) (ext_lt (k := 1) (u := u) hm)
  rw [ext_sgn h1 hn] at a1
  rw [ext_sgn h1 hm] at a2
  have b1 := top_sgn h1 hn
  have b2 := top_sgn h1 hm
  show ltB (top (W + u) (ext 1 W n u)) (top (W + u) (ext 1 W m u)) = ltB (top W n) (top W m)
  exact ltB_int (z := ((2 ^ (W + u - 1) : Nat) : Int) - ((2 ^ (W - 1) : Nat) : Int)) (by omega) (by omega)
theorem ext_ult {W n m u : Nat} : cmpv 0 (W + u) (ext 0 W n u) (ext 0 W m u) = cmpv 0 W n m := by
  show ltB (ext 0 W n u) (ext 0 W m u) = ltB n m
  simp [ext]

theorem minus_is {W n : Nat} {b : Bool} {WW lo hi : Int} (hb : n.testBit (W - 1) = b) (hw : Wd WW lo hi W n) (w : World) :
    Calls Try.prog 17 #[.agg #[.int .i64 WW, .int .u64 lo, .int .u64 hi]] w fun e w' => e = .returned (.bool b) ∧ Below w.heap.size w w' := by
  subst hb
  exact minus_any hw w

theorem extend_k {W n u V k : Nat} {WW lo hi uu : Int} {b : Bool} (hw : Wd WW lo hi W n) (hu : uu = u) (hV : V = W + u) (hV2 : V ≤ 128) (hb : b = decide (k = 1)) (w : World) :
    Calls Try.prog 15 #[.agg #[.int .i64 WW, .int .u64 lo, .int .u64 hi], .int .i64 uu, .bool b] w fun e w' => e = .returned (.tuple #[.agg #[.int .i64 V, .int .u64 (LO (ext k W n u)), .int .u64 (HI (ext k W n u))], .int .i64 0]) ∧ Below w.heap.size w w' := by
  have e0 : ((V : Nat) : Int) = (W : Int) + u := by omega
  rw [e0]
  by_cases h : k = 1 ∧ n.testBit (W - 1) = true
  · have e : ext k W n u = wide W n u := by unfold ext; rw [if_pos h]
    obtain rfl : b = true := by rw [hb, h.1]; rfl
    rw [e]
    exact extend_sign hw hu (by omega) h.2 w
  · have e : ext k W n u = n := by unfold ext; rw [if_neg h]
    rw [e]
    refine extend_zero hw hu (by omega) ?_ w
    by_cases hk : k = 1
    · right
      cases ht : n.testBit (W - 1)
      · rfl
      · exact absurd ⟨hk, ht⟩ h
    · left; rw [hb, decide_eq_false hk]
end Go.Proofs.Ytcfbabgffhfkdab
