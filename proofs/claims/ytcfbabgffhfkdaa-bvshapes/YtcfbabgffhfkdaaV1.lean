/- The program and the document say the same of shapes. -/
import Derived.Test.YtcfbabgffhfkdaaU6
namespace Go.Proofs.Ytcfbabgffhfkdaa
open Go.RowKit
set_option linter.unusedSimpArgs false
set_option linter.unusedVariables false

theorem nb_zeros : ∀ k, nb (List.replicate k false) = 0
  | 0 => rfl
  | k + 1 => by rw [List.replicate_succ, nb, nb_zeros k]; rfl
theorem nb_ones : ∀ k, nb (List.replicate k true) = 2 ^ k - 1
  | 0 => rfl
  | k + 1 => by
    rw [List.replicate_succ, nb, nb_ones k, Nat.pow_succ]
    have := Nat.two_pow_pos k
    simp only [Bool.toNat_true]; omega
theorem nb_ext0 {W n k : Nat} (hn : n < 2 ^ W) : nb (bl W n ++ List.replicate k false) = n := by
  rw [nb_append, nb_bl, nb_zeros, Nat.mod_eq_of_lt hn]; simp
theorem nb_ext1 {W n k : Nat} (hn : n < 2 ^ W) : nb (bl W n ++ List.replicate k true) = wide W n k := by
  rw [nb_append, nb_bl, nb_ones, Nat.mod_eq_of_lt hn, bl_len]
  unfold wide
  have e : 2 ^ (W + k) = 2 ^ W * 2 ^ k := Nat.pow_add 2 W k
  have h1 := Nat.two_pow_pos W
  have h2 := Nat.two_pow_pos k
  have h3 : 2 ^ W * (2 ^ k - 1) = 2 ^ W * 2 ^ k - 2 ^ W := by rw [Nat.mul_sub, Nat.mul_one]
  have h4 : 2 ^ W ≤ 2 ^ W * 2 ^ k := Nat.le_mul_of_pos_right _ h2
  rw [h3, e]
  omega
theorem concat_pair {A A' : Int} {N N' : Nat} (hN : N < 2 ^ 128) (hN' : N' < 2 ^ 128) : ∃ K lo hi er : Int, (∀ wx, Calls Try.prog 19 #[.agg #[.int .i64 A, .int .u64 (LO (N)), .int .u64 (HI (N))], .agg #[.int .i64 A', .int .u64 (LO (N')), .int .u64 (HI (N'))]] wx fun e w' => e = .returned (.tuple #[.agg #[.int .i64 K, .int .u64 lo, .int .u64 hi], .int .i64 er]) ∧ Below wx.heap.size wx w') ∧ (∀ wx, Calls Try.prog 20 #[.agg #[.int .i64 A, .int .u64 (LO (N)), .int .u64 (HI (N))], .agg #[.int .i64 A', .int .u64 (LO (N')), .int .u64 (HI (N'))]] wx fun e w' => e = .returned (.tuple #[.agg #[.int .i64 K, .int .u64 lo, .int .u64 hi], .int .i64 er]) ∧ Below wx.heap.size wx w') := by
  by_cases h : RW A N
  · obtain ⟨W, rfl⟩ : ∃ W : Nat, A = W := ⟨A.toNat, by have := h.1; omega⟩
    obtain ⟨p1, p2, p3⟩ := h
    have h1 : 1 ≤ W := by omega
    have h2 : W ≤ 128 := by omega
    have hn : N < 2 ^ W := by simpa using p3
    by_cases h' : RW A' N'
    · obtain ⟨V, rfl⟩ : ∃ V : Nat, A' = V := ⟨A'.toNat, by have := h'.1; omega⟩
      obtain ⟨q1, q2, q3⟩ := h'
      have k1 : 1 ≤ V := by omega
      have k2 : V ≤ 128 := by omega
      have hm : N' < 2 ^ V := by simpa using q3
      by_cases hs : W + V ≤ 128
      · exact ⟨_, _, _, _, fun wx => concat_any (Wd.mk' h1 h2 hn) (Wd.mk' k1 k2 hm) hs wx, fun wx => refconcat_any h1 h2 hn k1 k2 hm hs wx⟩
      · exact ⟨_, _, _, _, fun wx => concat_no (Wd.mk' h1 h2 hn) (Wd.mk' k1 k2 hm) (by omega) wx, fun wx => refconcat_sum h1 h2 hn k1 k2 hm (by omega) wx⟩
    · exact ⟨_, _, _, _, fun wx => concat_nob h1 h2 hn (fun wy => isWord_no hN' h' wy) wx, fun wx => refconcat_nob h1 h2 hn (fun wy => refword_no hN' h' wy) wx⟩
  · exact ⟨_, _, _, _, fun wx => concat_noa (fun wy => isWord_no hN h wy) wx, fun wx => refconcat_noa (fun wy => refword_no hN h wy) wx⟩
theorem extract_pair {A i j : Int} {N : Nat} (hN : N < 2 ^ 128) : ∃ K lo hi er : Int, (∀ wx, Calls Try.prog 21 #[.agg #[.int .i64 A, .int .u64 (LO (N)), .int .u64 (HI (N))], .int .i64 i, .int .i64 j] wx fun e w' => e = .returned (.tuple #[.agg #[.int .i64 K, .int .u64 lo, .int .u64 hi], .int .i64 er]) ∧ Below wx.heap.size wx w') ∧ (∀ wx, Calls Try.prog 22 #[.agg #[.int .i64 A, .int .u64 (LO (N)), .int .u64 (HI (N))], .int .i64 i, .int .i64 j] wx fun e w' => e = .returned (.tuple #[.agg #[.int .i64 K, .int .u64 lo, .int .u64 hi], .int .i64 er]) ∧ Below wx.heap.size wx w') := by
  by_cases h : RW A N
  · obtain ⟨W, rfl⟩ : ∃ W : Nat, A = W := ⟨A.toNat, by have := h.1; omega⟩
    obtain ⟨p1, p2, p3⟩ := h
    have h1 : 1 ≤ W := by omega
    have h2 : W ≤ 128 := by omega
    have hn : N < 2 ^ W := by simpa using p3
    by_cases hp : i < W ∧ j ≤ i ∧ 0 ≤ j
    · obtain ⟨i', rfl⟩ : ∃ i' : Nat, i = i' := ⟨i.toNat, by omega⟩
      obtain ⟨j', rfl⟩ : ∃ j' : Nat, j = j' := ⟨j.toNat, by omega⟩
      exact ⟨_, _, _, _, fun wx => extract_any (Wd.mk' h1 h2 hn) rfl rfl (by omega) (by omega) wx, fun wx => refextract_any h1 h2 hn (by omega) (by omega) wx⟩
    · exact ⟨_, _, _, _, fun wx => extract_place hp h1 h2 hn wx, fun wx => refextract_place hp h1 h2 hn wx⟩
  · exact ⟨_, _, _, _, fun wx => extract_no (fun wy => isWord_no hN h wy) wx, fun wx => refextract_no (fun wy => refword_no hN h wy) wx⟩
theorem extend_pair {A i : Int} {N : Nat} (hN : N < 2 ^ 128) (c : Bool) : ∃ K lo hi er : Int, (∀ wx, Calls Try.prog 23 #[.agg #[.int .i64 A, .int .u64 (LO (N)), .int .u64 (HI (N))], .int .i64 i, .bool c] wx fun e w' => e = .returned (.tuple #[.agg #[.int .i64 K, .int .u64 lo, .int .u64 hi], .int .i64 er]) ∧ Below wx.heap.size wx w') ∧ (∀ wx, Calls Try.prog 24 #[.agg #[.int .i64 A, .int .u64 (LO (N)), .int .u64 (HI (N))], .int .i64 i, .bool c] wx fun e w' => e = .returned (.tuple #[.agg #[.int .i64 K, .int .u64 lo, .int .u64 hi], .int .i64 er]) ∧ Below wx.heap.size wx w') := by
  by_cases h : RW A N
  · obtain ⟨W, rfl⟩ : ∃ W : Nat, A = W := ⟨A.toNat, by have := h.1; omega⟩
    obtain ⟨p1, p2, p3⟩ := h
    have h1 : 1 ≤ W := by omega
    have h2 : W ≤ 128 := by omega
    have hn : N < 2 ^ W := by simpa using p3
    by_cases hp : i < 0
    · exact ⟨_, _, _, _, fun wx => extend_neg hp h1 h2 hn wx, fun wx => refextend_neg hp h1 h2 hn wx⟩
    · by_cases hq : 128 - (W : Int) < i
      · exact ⟨_, _, _, _, fun wx => extend_wide (by omega) hq h1 h2 hn wx, fun wx => refextend_wide (by omega) hq h1 h2 hn wx⟩
      · obtain ⟨k, rfl⟩ : ∃ k : Nat, i = k := ⟨i.toNat, by omega⟩
        by_cases hs : (c && N.testBit (W - 1)) = true
        · obtain ⟨rfl, ht⟩ : c = true ∧ N.testBit (W - 1) = true := by simpa using hs
          refine ⟨_, _, _, _, fun wx => extend_sign (Wd.mk' h1 h2 hn) rfl (by omega) ht wx, fun wx => ?_⟩
          have h := refextend_any (f := true) h1 h2 hn (by omega) hs.symm wx (k := k)
          rw [nb_ext1 hn] at h
          exact h
        · have hs' : (c && N.testBit (W - 1)) = false := by simpa using hs
          refine ⟨_, _, _, _, fun wx => extend_zero (b := c) (Wd.mk' h1 h2 hn) rfl (by omega) (by cases c; exact Or.inl rfl; exact Or.inr (by simpa using hs')) wx, fun wx => ?_⟩
          have h := refextend_any (f := false) h1 h2 hn (by omega) hs'.symm wx (k := k)
          rw [nb_ext0 hn] at h
          exact h
  · exact ⟨_, _, _, _, fun wx => extend_no (fun wy => isWord_no hN h wy) wx, fun wx => refextend_no (fun wy => refword_no hN h wy) wx⟩
theorem rotate_pair {A i : Int} {N : Nat} (hN : N < 2 ^ 128) (hi : i < 9223372036854775808) (c : Bool) : ∃ K lo hi er : Int, (∀ wx, Calls Try.prog 25 #[.agg #[.int .i64 A, .int .u64 (LO (N)), .int .u64 (HI (N))], .int .i64 i, .bool c] wx fun e w' => e = .returned (.tuple #[.agg #[.int .i64 K, .int .u64 lo, .int .u64 hi], .int .i64 er]) ∧ Below wx.heap.size wx w') ∧ (∀ wx, Calls Try.prog 26 #[.agg #[.int .i64 A, .int .u64 (LO (N)), .int .u64 (HI (N))], .int .i64 i, .bool c] wx fun e w' => e = .returned (.tuple #[.agg #[.int .i64 K, .int .u64 lo, .int .u64 hi], .int .i64 er]) ∧ Below wx.heap.size wx w') := by
  by_cases h : RW A N
  · obtain ⟨W, rfl⟩ : ∃ W : Nat, A = W := ⟨A.toNat, by have := h.1; omega⟩
    obtain ⟨p1, p2, p3⟩ := h
    have h1 : 1 ≤ W := by omega
    have h2 : W ≤ 128 := by omega
    have hn : N < 2 ^ W := by simpa using p3
    by_cases hp : i < 0
    · exact ⟨_, _, _, _, fun wx => rotate_neg hp h1 h2 hn wx, fun wx => refrotate_neg hp h1 h2 hn wx⟩
    · obtain ⟨k, rfl⟩ : ∃ k : Nat, i = k := ⟨i.toNat, by omega⟩
      cases c
      · exact ⟨_, _, _, _, fun wx => rotate_right (Wd.mk' h1 h2 hn) rfl (by omega) wx, fun wx => refrotate_u (r := k % W) h1 h2 hn (by omega) hi (by simp) (by simp) wx⟩
      · exact ⟨_, _, _, _, fun wx => rotate_left (Wd.mk' h1 h2 hn) rfl (by omega) wx, fun wx => refrotate_u (r := k % W) h1 h2 hn (by omega) hi (by simp) (by simp) wx⟩
  · exact ⟨_, _, _, _, fun wx => rotate_no (fun wy => isWord_no hN h wy) wx, fun wx => refrotate_no (fun wy => refword_no hN h wy) wx⟩
theorem repeat_pair {A i : Int} {N : Nat} (hN : N < 2 ^ 128) : ∃ K lo hi er : Int, (∀ wx, Calls Try.prog 27 #[.agg #[.int .i64 A, .int .u64 (LO (N)), .int .u64 (HI (N))], .int .i64 i] wx fun e w' => e = .returned (.tuple #[.agg #[.int .i64 K, .int .u64 lo, .int .u64 hi], .int .i64 er]) ∧ Below wx.heap.size wx w') ∧ (∀ wx, Calls Try.prog 28 #[.agg #[.int .i64 A, .int .u64 (LO (N)), .int .u64 (HI (N))], .int .i64 i] wx fun e w' => e = .returned (.tuple #[.agg #[.int .i64 K, .int .u64 lo, .int .u64 hi], .int .i64 er]) ∧ Below wx.heap.size wx w') := by
  by_cases h : RW A N
  · obtain ⟨W, rfl⟩ : ∃ W : Nat, A = W := ⟨A.toNat, by have := h.1; omega⟩
    obtain ⟨p1, p2, p3⟩ := h
    have h1 : 1 ≤ W := by omega
    have h2 : W ≤ 128 := by omega
    have hn : N < 2 ^ W := by simpa using p3
    by_cases hp : i < 1
    · exact ⟨_, _, _, _, fun wx => repeat_low hp h1 h2 hn wx, fun wx => refrepeat_low hp h1 h2 hn wx⟩
    · obtain ⟨k, rfl⟩ : ∃ k : Nat, i = k := ⟨i.toNat, by omega⟩
      by_cases hq : k ≤ 128 / W
      · exact ⟨_, _, _, _, fun wx => repeat_any (Wd.mk' h1 h2 hn) rfl (by omega) hq wx, fun wx => refrepeat_any h1 h2 hn (by omega) hq wx⟩
      · exact ⟨_, _, _, _, fun wx => repeat_wide (by omega) (by omega) h1 h2 hn wx, fun wx => refrepeat_wide (by omega) (by omega) h1 h2 hn wx⟩
  · exact ⟨_, _, _, _, fun wx => repeat_no (fun wy => isWord_no hN h wy) wx, fun wx => refrepeat_no (fun wy => refword_no hN h wy) wx⟩

theorem eq_self (K l h : Int) (w : World) : (binOp .eql 24 (.agg #[.int .i64 K, .int .u64 l, .int .u64 h]) (.agg #[.int .i64 K, .int .u64 l, .int .u64 h])).run Try.prog w = .ok (.bool true) w := by
  simp [go_sem]
theorem neq_self (K l h : Int) (w : World) : (binOp .neq 24 (.agg #[.int .i64 K, .int .u64 l, .int .u64 h]) (.agg #[.int .i64 K, .int .u64 l, .int .u64 h])).run Try.prog w = .ok (.bool false) w := by
  simp [go_sem]
end Go.Proofs.Ytcfbabgffhfkdaa
