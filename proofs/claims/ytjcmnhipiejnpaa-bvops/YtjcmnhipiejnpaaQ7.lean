/- The plain laws of BvDivides. -/
import Derived.Test.YtjcmnhipiejnpaaQ2
import Derived.Test.YtjcmnhipiejnpaaJD
namespace Go.Proofs.Ytjcmnhipiejnpaa
open Go.RowKit
set_option linter.unusedSimpArgs false
set_option linter.unusedVariables false

/-- The sign as a factor. -/
def sg (b : Bool) : Int := if b then -1 else 1
theorem neg_int (W a : Nat) (h : a < 2 ^ W) : ∃ k : Int, ((neg W a : Nat) : Int) = k * ((2 ^ W : Nat) : Int) - a := by
  unfold neg
  by_cases h0 : a = 0
  · subst h0; exact ⟨0, by simp⟩
  · refine ⟨1, ?_⟩
    rw [Nat.mod_eq_of_lt (by omega)]
    omega
theorem wsign_int (W n a : Nat) (h : a < 2 ^ W) : ∃ k : Int, ((wsign W n a : Nat) : Int) = k * ((2 ^ W : Nat) : Int) + sg (n.testBit (W - 1)) * a := by
  unfold wsign
  cases hb : n.testBit (W - 1)
  · exact ⟨0, by simp [sg]⟩
  · obtain ⟨k, hk⟩ := neg_int W a h
    exact ⟨k, by simp only [if_true, hk, sg]; omega⟩

theorem mod_back {P : Nat} {n x : Nat} (hn : n < P) (h : ∃ k : Int, (x : Int) = (n : Int) + k * (P : Int)) : x % P = n := by
  obtain ⟨k, hk⟩ := h
  have : ((x % P : Nat) : Int) = (n : Int) := by
    rw [Int.natCast_emod, hk, Int.add_mul_emod_self_right]
    exact Int.emod_eq_of_lt (by omega) (by omega)
  omega

theorem div_make {W n m : Nat} (hn : n < 2 ^ W) (hm0 : m ≠ 0) : lowop 6 W (lowop 8 W (udiv W n m) m) (urem n m) = n := by
  show (udiv W n m * m % 2 ^ W + urem n m) % 2 ^ W = n
  unfold udiv urem
  rw [if_neg hm0, if_neg hm0]
  have h := Nat.div_add_mod n m
  have hc : n / m * m = m * (n / m) := Nat.mul_comm _ _
  rw [Nat.mod_eq_of_lt (a := n / m * m) (by omega), Nat.mod_eq_of_lt (by omega)]
  omega

theorem urem_below {n m : Nat} (hm0 : m ≠ 0) : urem n m < m := by
  unfold urem; rw [if_neg hm0]; exact Nat.mod_lt _ (by omega)

theorem size_le {W n : Nat} (h1 : 1 ≤ W) (hn : n < 2 ^ W) : (n.testBit (W - 1) = false → wsign W n n = n ∧ n < 2 ^ (W - 1)) ∧ (n.testBit (W - 1) = true → wsign W n n = 2 ^ W - n ∧ 2 ^ (W - 1) ≤ n) := by
  have ht := testBit_top h1 hn
  have hp := pow_pred h1
  have h0 := Nat.two_pow_pos (W - 1)
  constructor
  · intro hb
    rw [hb] at ht
    have : ¬ 2 ^ (W - 1) ≤ n := by simpa using ht.symm
    exact ⟨by unfold wsign; simp [hb], by omega⟩
  · intro hb
    rw [hb] at ht
    have : 2 ^ (W - 1) ≤ n := by simpa using ht.symm
    refine ⟨?_, this⟩
    unfold wsign; rw [hb, if_pos rfl]; unfold neg
    exact Nat.mod_eq_of_lt (by omega)

theorem size_zero {W m : Nat} (h1 : 1 ≤ W) (hm : m < 2 ^ W) (h : m ≠ 0) : wsign W m m ≠ 0 := by
  obtain ⟨ha, hb⟩ := size_le h1 hm
  cases e : m.testBit (W - 1)
  · rw [(ha e).1]; exact h
  · rw [(hb e).1]; omega

theorem wsign_twice {W n : Nat} (h1 : 1 ≤ W) (hn : n < 2 ^ W) : wsign W n (wsign W n n) = n := by
  obtain ⟨ha, hb⟩ := size_le h1 hn
  cases e : n.testBit (W - 1)
  · rw [(ha e).1]; unfold wsign; simp [e]
  · rw [(hb e).1]
    unfold wsign; rw [e, if_pos rfl]; unfold neg
    have := (hb e).2
    have := Nat.two_pow_pos (W - 1)
    rw [show 2 ^ W - (2 ^ W - n) = n by omega]
    exact Nat.mod_eq_of_lt hn

theorem srem_zero {W n : Nat} (h1 : 1 ≤ W) (hn : n < 2 ^ W) : srem W n 0 = n := by
  unfold srem
  have : wsign W 0 0 = 0 := by unfold wsign; simp
  rw [this]
  unfold urem; rw [if_pos rfl]
  exact wsign_twice h1 hn
theorem smod_zero {W n : Nat} (h1 : 1 ≤ W) (hn : n < 2 ^ W) : smod W n 0 = n := by
  have hz := srem_zero h1 hn
  unfold smod
  unfold srem at hz
  rw [hz, Nat.add_zero, Nat.mod_eq_of_lt hn]
  simp

theorem ring0 (σ τ D k1 k2 k3 k4 P n m : Int) : (k3 * P + σ * τ * D) * m + (k4 * P + σ * (k1 * P + σ * n - D * (k2 * P + τ * m))) = n + (k3 * m + k4 - σ * D * k2 + σ * k1) * P + (σ * σ - 1) * n := by grind
theorem ring1 {σ τ D B E A P k1 k2 k3 k4 n m : Int} (hs : σ * σ = 1) (hA : A = D * B + E) (hn : A = k1 * P + σ * n) (hm : B = k2 * P + τ * m) : (k3 * P + σ * τ * D) * m + (k4 * P + σ * E) = n + (k3 * m + k4 - σ * D * k2 + σ * k1) * P := by
  have hE : E = k1 * P + σ * n - D * (k2 * P + τ * m) := by rw [← hm, ← hn, hA]; omega
  rw [hE, ring0, hs]; simp
theorem sdiv_make {W n m : Nat} (h1 : 1 ≤ W) (hn : n < 2 ^ W) (hm : m < 2 ^ W) : lowop 6 W (lowop 8 W (sdiv W n m) m) (srem W n m) = n := by
  show (sdiv W n m * m % 2 ^ W + srem W n m) % 2 ^ W = n
  have hA := wsign_lt (a := n) hn
  have hB := wsign_lt (a := m) hm
  have hD : udiv W (wsign W n n) (wsign W m m) < 2 ^ W := udiv_lt hA
  have hE : urem (wsign W n n) (wsign W m m) < 2 ^ W := urem_lt hA
  rw [Nat.mod_add_mod]
  refine mod_back hn ?_
  have hT : ∃ k : Int, ((srem W n m : Nat) : Int) = k * ((2 ^ W : Nat) : Int) + sg (n.testBit (W - 1)) * (urem (wsign W n n) (wsign W m m) : Nat) := wsign_int W n _ hE
  have hS : ∃ k : Int, ((sdiv W n m : Nat) : Int) = k * ((2 ^ W : Nat) : Int) + sg (n.testBit (W - 1)) * sg (m.testBit (W - 1)) * (udiv W (wsign W n n) (wsign W m m) : Nat) := by
    unfold sdiv
    cases n.testBit (W - 1) <;> cases m.testBit (W - 1)
    · exact ⟨0, by simp [sg]⟩
    · obtain ⟨k, hk⟩ := neg_int W _ hD
      exact ⟨k, by simp [hk, sg]; omega⟩
    · obtain ⟨k, hk⟩ := neg_int W _ hD
      exact ⟨k, by simp [hk, sg]; omega⟩
    · exact ⟨0, by simp [sg]⟩
  obtain ⟨k1, e1⟩ := wsign_int W n n hn
  obtain ⟨k2, e2⟩ := wsign_int W m m hm
  obtain ⟨k3, e3⟩ := hS
  obtain ⟨k4, e4⟩ := hT
  have hsn : sg (n.testBit (W - 1)) * sg (n.testBit (W - 1)) = 1 := by cases n.testBit (W - 1) <;> rfl
  have hsm : sg (m.testBit (W - 1)) * sg (m.testBit (W - 1)) = 1 := by cases m.testBit (W - 1) <;> rfl
  generalize sg (n.testBit (W - 1)) = σ at *
  generalize sg (m.testBit (W - 1)) = τ at *
  by_cases hm0 : wsign W m m = 0
  · have hmz : m = 0 := by
      unfold wsign at hm0
      split at hm0
      · unfold neg at hm0
        by_cases h0 : m = 0
        · exact h0
        · rw [Nat.mod_eq_of_lt (by omega)] at hm0; omega
      · exact hm0
    subst hmz
    exact ⟨0, by rw [srem_zero h1 hn]; simp⟩
  · have eA : (wsign W n n : Int) = (udiv W (wsign W n n) (wsign W m m) : Nat) * (wsign W m m : Nat) + (urem (wsign W n n) (wsign W m m) : Nat) := by
      unfold udiv urem
      rw [if_neg hm0, if_neg hm0]
      have h := Nat.div_add_mod (wsign W n n) (wsign W m m)
      have hc := Nat.mul_comm (wsign W n n / wsign W m m) (wsign W m m)
      rw [← Int.natCast_mul, ← Int.natCast_add]
      omega
    generalize ((urem (wsign W n n) (wsign W m m) : Nat) : Int) = E at *
    generalize ((udiv W (wsign W n n) (wsign W m m) : Nat) : Int) = D at *
    generalize ((wsign W n n : Nat) : Int) = A at *
    generalize ((wsign W m m : Nat) : Int) = B at *
    push_cast
    push_cast at e1 e2 e3 e4
    generalize ((2 : Int) ^ W) = P at *
    rw [e3, e4]
    exact ⟨k3 * m + k4 - σ * D * k2 + σ * k1, ring1 hsn eA e1 e2⟩
theorem srem_sign {W n m : Nat} (h1 : 1 ≤ W) (hn : n < 2 ^ W) (h : srem W n m ≠ 0) : (srem W n m).testBit (W - 1) = n.testBit (W - 1) := by
  obtain ⟨ha, hb⟩ := size_le h1 hn
  have hp := pow_pred h1
  have h0 := Nat.two_pow_pos (W - 1)
  have hle : urem (wsign W n n) (wsign W m m) ≤ wsign W n n := by
    unfold urem; split
    · omega
    · exact Nat.mod_le _ _
  unfold srem at h ⊢
  generalize urem (wsign W n n) (wsign W m m) = E at *
  cases e : n.testBit (W - 1)
  · rw [(ha e).1] at hle
    have e2 : wsign W n E = E := by unfold wsign; simp [e]
    rw [e2] at h ⊢
    have := (ha e).2
    rw [testBit_top h1 (by omega)]
    simp; omega
  · rw [(hb e).1] at hle
    have e2 : wsign W n E = neg W E := by unfold wsign; simp [e]
    rw [e2] at h ⊢
    have := (hb e).2
    have hE0 : E ≠ 0 := fun h0 => h (by rw [h0]; unfold neg; simp)
    have e3 : neg W E = 2 ^ W - E := by unfold neg; exact Nat.mod_eq_of_lt (by omega)
    rw [e3, testBit_top h1 (by omega)]
    simp; omega

theorem smod_sign {W n m : Nat} (h1 : 1 ≤ W) (hn : n < 2 ^ W) (hm : m < 2 ^ W) (hm0 : m ≠ 0) (h : smod W n m ≠ 0) : (smod W n m).testBit (W - 1) = m.testBit (W - 1) := by
  obtain ⟨ha, hb⟩ := size_le h1 hn
  obtain ⟨hc, hd⟩ := size_le h1 hm
  have hp := pow_pred h1
  have h0 := Nat.two_pow_pos (W - 1)
  have hE : urem (wsign W n n) (wsign W m m) < wsign W m m := urem_below (size_zero h1 hm hm0)
  unfold smod at h ⊢
  generalize urem (wsign W n n) (wsign W m m) = E at *
  cases e : n.testBit (W - 1) <;> cases f : m.testBit (W - 1)
  · rw [e, f] at h
    have e2 : wsign W n E = E := by unfold wsign; simp [e]
    rw [(hc f).1] at hE
    have := (hc f).2
    simp only [bne_self_eq_false, Bool.false_eq_true, and_false, if_false, e2] at h ⊢
    rw [testBit_top h1 (by omega)]
    simp; omega
  · rw [e, f] at h
    have e2 : wsign W n E = E := by unfold wsign; simp [e]
    rw [(hd f).1] at hE
    have := (hd f).2
    by_cases hE0 : E = 0
    · subst hE0
      simp [e2] at h
    · have hcond : (E ≠ 0 ∧ (false != true) = true) := ⟨hE0, rfl⟩
      rw [if_pos hcond] at h ⊢
      rw [e2, Nat.mod_eq_of_lt (by omega), testBit_top h1 (by omega)]
      simp; omega
  · rw [e, f] at h
    have e2 : wsign W n E = neg W E := by unfold wsign; simp [e]
    rw [(hc f).1] at hE
    have := (hc f).2
    by_cases hE0 : E = 0
    · subst hE0
      simp [e2, neg] at h
    · have hcond : (E ≠ 0 ∧ (true != false) = true) := ⟨hE0, rfl⟩
      rw [if_pos hcond] at h ⊢
      have e3 : neg W E = 2 ^ W - E := by unfold neg; exact Nat.mod_eq_of_lt (by omega)
      have e4 : (2 ^ W - E + m) % 2 ^ W = m - E := by
        rw [show 2 ^ W - E + m = (m - E) + 2 ^ W by omega, Nat.add_mod_right, Nat.mod_eq_of_lt (by omega)]
      rw [e2, e3, e4, testBit_top h1 (by omega)]
      simp; omega
  · rw [e, f] at h
    have e2 : wsign W n E = neg W E := by unfold wsign; simp [e]
    rw [(hd f).1] at hE
    have := (hd f).2
    simp only [bne_self_eq_false, Bool.false_eq_true, and_false, if_false, e2] at h ⊢
    have hE0 : E ≠ 0 := fun h0 => h (by rw [h0]; unfold neg; simp)
    have e3 : neg W E = 2 ^ W - E := by unfold neg; exact Nat.mod_eq_of_lt (by omega)
    rw [e3, testBit_top h1 (by omega)]
    simp; omega

theorem smod_or {W n m : Nat} : smod W n m = srem W n m ∨ lowop 6 W (srem W n m) m = smod W n m := by
  unfold smod srem
  split
  · right; rfl
  · left; rfl
theorem smod_lt {W n m : Nat} (hn : n < 2 ^ W) : smod W n m < 2 ^ W := by
  unfold smod; split
  · exact mod_lt_W _ _
  · exact wsign_lt (urem_lt (wsign_lt hn))
theorem sdiv_lt {W n m : Nat} (hn : n < 2 ^ W) : sdiv W n m < 2 ^ W := by
  unfold sdiv; split
  · exact neg_lt _ _
  · exact udiv_lt (wsign_lt hn)
theorem srem_lt {W n m : Nat} (hn : n < 2 ^ W) : srem W n m < 2 ^ W := wsign_lt (urem_lt (wsign_lt hn))
end Go.Proofs.Ytjcmnhipiejnpaa
