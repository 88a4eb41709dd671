/- A plain law: a repetition turned round by its word's width is itself. -/
import Derived.Test.YtcfbabgffhfkdabL
namespace Go.Proofs.Ytcfbabgffhfkdab
open Go.RowKit
set_option linter.unusedSimpArgs false
set_option linter.unusedVariables false

theorem rep_above (V n : Nat) : ∀ k, rep V n (k + 1) = n * 2 ^ (V * k) + rep V n k
  | 0 => by simp [rep, cat]
  | k + 1 => by
    have h := rep_above V n k
    have e : rep V n (k + 1 + 1) = rep V n (k + 1) * 2 ^ V + n := rfl
    have e2 : rep V n (k + 1) = rep V n k * 2 ^ V + n := rfl
    rw [e, h, Nat.add_mul, Nat.mul_assoc, ← Nat.pow_add, show V * k + V = V * (k + 1) from (Nat.mul_succ V k).symm, Nat.add_assoc, ← e2, h]
theorem rot_rep {V n k : Nat} (hV : 1 ≤ V) (hn : n < 2 ^ V) (hk : 1 ≤ k) : rot (wk V k) (rep V n k) (wk V k - V % wk V k) = rep V n k := by
  unfold wk
  by_cases h1 : k = 1
  · subst h1
    have e1 : rep V n 1 = n := by simp [rep, cat]
    rw [Nat.mul_one, Nat.mod_self, Nat.sub_zero, e1]
    unfold rot
    rw [Nat.mul_mod_left, Nat.sub_self, Nat.pow_zero, Nat.div_one, Nat.zero_or]
  · obtain ⟨j, rfl⟩ : ∃ j, k = j + 2 := ⟨k - 2, by omega⟩
    have hlt : V < V * (j + 2) := by rw [Nat.mul_add]; omega
    have eu : V * (j + 2) - V = V * (j + 1) := by rw [show j + 2 = (j + 1) + 1 from rfl, Nat.mul_succ]; omega
    have eK : V * (j + 2) = V + V * (j + 1) := by rw [show j + 2 = (j + 1) + 1 from rfl, Nat.mul_succ]; omega
    rw [Nat.mod_eq_of_lt hlt, eu]
    unfold rot
    have hs : V * (j + 2) - V * (j + 1) = V := by omega
    have hr : rep V n (j + 1) < 2 ^ (V * (j + 1)) := rep_lt hn (j + 1)
    have e0 : rep V n (j + 2) = rep V n (j + 1) * 2 ^ V + n := rfl
    have d : rep V n (j + 2) / 2 ^ V = rep V n (j + 1) := by
      rw [e0, Nat.mul_comm, Nat.mul_add_div (Nat.two_pow_pos V), Nat.div_eq_of_lt hn, Nat.add_zero]
    have hlt2 : n * 2 ^ (V * (j + 1)) < 2 ^ (V * (j + 2)) := by rw [eK]; exact up_lt hn
    have m : rep V n (j + 2) * 2 ^ (V * (j + 1)) % 2 ^ (V * (j + 2)) = n * 2 ^ (V * (j + 1)) := by
      rw [e0, Nat.add_mul, Nat.mul_assoc, ← Nat.pow_add, ← eK, Nat.add_comm, Nat.add_mul_mod_self_right, Nat.mod_eq_of_lt hlt2]
    rw [hs, d, m, cat_or hr]
    have := rep_above V n (j + 1)
    rw [show j + 1 + 1 = j + 2 from rfl] at this
    rw [this]; rfl
end Go.Proofs.Ytcfbabgffhfkdab
