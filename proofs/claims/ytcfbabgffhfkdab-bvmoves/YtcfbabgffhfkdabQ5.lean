/- Cuts, turns, shifts by powers: the plain laws of BvMoves. -/
import Derived.Test.YtcfbabgffhfkdabQ1
import Derived.Test.YtcfbabgffhfkdabQ3
import Derived.Test.YtcfbabgffhfkdabQ4
namespace Go.Proofs.Ytcfbabgffhfkdab
open Go.RowKit
set_option linter.unusedSimpArgs false
set_option linter.unusedVariables false

theorem cat_hi {W n V m : Nat} (hn : n < 2 ^ W) (hm : m < 2 ^ V) : cat n V m / 2 ^ V % 2 ^ W = n := by
  unfold cat
  rw [Nat.mul_comm, Nat.mul_add_div (Nat.two_pow_pos V), Nat.div_eq_of_lt hm, Nat.add_zero, Nat.mod_eq_of_lt hn]
theorem cat_lo {n V m : Nat} (hm : m < 2 ^ V) : cat n V m % 2 ^ V = m := by
  unfold cat
  rw [Nat.mul_comm, Nat.mul_add_mod, Nat.mod_eq_of_lt hm]

theorem rot_val {W n u : Nat} (hu : u ≤ W) (hn : n < 2 ^ W) : rot W n u = (n % 2 ^ (W - u)) * 2 ^ u + n / 2 ^ (W - u) := by
  have hp : 2 ^ W = 2 ^ (W - u) * 2 ^ u := by rw [← Nat.pow_add]; congr 1; omega
  have h1 : n / 2 ^ (W - u) < 2 ^ u := by
    rw [Nat.div_lt_iff_lt_mul (Nat.two_pow_pos _), Nat.mul_comm, ← hp]; exact hn
  unfold rot
  rw [hp, Nat.mul_mod_mul_right, cat_or h1]; rfl
theorem rot_back {W n u : Nat} (hu : u ≤ W) (hn : n < 2 ^ W) : rot W (rot W n u) (W - u) = n := by
  have hp : 2 ^ W = 2 ^ (W - u) * 2 ^ u := by rw [← Nat.pow_add]; congr 1; omega
  have h1 : n / 2 ^ (W - u) < 2 ^ u := by
    rw [Nat.div_lt_iff_lt_mul (Nat.two_pow_pos _), Nat.mul_comm, ← hp]; exact hn
  have hs : W - (W - u) = u := by omega
  rw [rot_val (by omega) (rot_lt hn), hs, rot_val hu hn]
  rw [Nat.mul_comm (n % 2 ^ (W - u)), Nat.mul_add_mod, Nat.mod_eq_of_lt h1, Nat.mul_add_div (Nat.two_pow_pos u), Nat.div_eq_of_lt h1, Nat.add_zero, Nat.mul_comm]
  exact Nat.div_add_mod n (2 ^ (W - u))
theorem one_up {W k : Nat} (hk : k < W) : sh 0 W 1 k = 2 ^ k := by
  show 1 * 2 ^ k % 2 ^ W = 2 ^ k
  rw [Nat.one_mul, Nat.mod_eq_of_lt (Nat.pow_lt_pow_right (by decide) hk)]
theorem pow_lt_W {W k : Nat} (hk : k < W) : 2 ^ k < 2 ^ W := Nat.pow_lt_pow_right (by decide) hk
theorem udiv_pow {W n k : Nat} : udiv W n (2 ^ k) = sh 1 W n k := by
  have := Nat.two_pow_pos k
  unfold udiv
  rw [if_neg (by omega)]; rfl
theorem ext_zero {W n : Nat} (hn : n < 2 ^ W) : ext 1 W n 0 = n := by
  have h := ext_low (k := 1) (u := 0) hn
  have h2 := ext_lt (k := 1) (u := 0) hn
  rw [Nat.add_zero] at h2
  rw [Nat.mod_eq_of_lt h2] at h
  exact h
theorem rep_one {W n : Nat} : rep W n 1 = n := by simp [rep, cat]
theorem wk_one {W : Nat} : wk W 1 = W := Nat.mul_one W
theorem one_lt_W {W : Nat} (h : 1 ≤ W) : 1 < 2 ^ W := Nat.one_lt_two_pow (by omega)
end Go.Proofs.Ytcfbabgffhfkdab
