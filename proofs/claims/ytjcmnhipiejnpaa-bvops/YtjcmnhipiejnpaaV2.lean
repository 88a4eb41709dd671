/- The program and the document say the same of operators. -/
import Derived.Test.YtjcmnhipiejnpaaU22
import Derived.Test.YtjcmnhipiejnpaaU23
import Derived.Test.YtjcmnhipiejnpaaU24
import Derived.Test.YtjcmnhipiejnpaaU25
import Derived.Test.YtjcmnhipiejnpaaN
import Derived.Test.YtjcmnhipiejnpaaQ7
namespace Go.Proofs.Ytjcmnhipiejnpaa
open Go.RowKit
set_option linter.unusedSimpArgs false
set_option linter.unusedVariables false

theorem two_pair {op A A' : Int} {N N' : Nat} (hN : N < 2 ^ 128) (hN' : N' < 2 ^ 128) : ∃ K lo hi er : Int, (∀ wx, Calls Try.prog 42 #[.int .i64 op, .agg #[.int .i64 A, .int .u64 (LO (N)), .int .u64 (HI (N))], .agg #[.int .i64 A', .int .u64 (LO (N')), .int .u64 (HI (N'))]] wx fun e w' => e = .returned (.tuple #[.agg #[.int .i64 K, .int .u64 lo, .int .u64 hi], .int .i64 er]) ∧ Below wx.heap.size wx w') ∧ (∀ wx, Calls Try.prog 43 #[.int .i64 op, .agg #[.int .i64 A, .int .u64 (LO (N)), .int .u64 (HI (N))], .agg #[.int .i64 A', .int .u64 (LO (N')), .int .u64 (HI (N'))]] wx fun e w' => e = .returned (.tuple #[.agg #[.int .i64 K, .int .u64 lo, .int .u64 hi], .int .i64 er]) ∧ Below wx.heap.size wx w') := by
  by_cases h : RW A N
  · obtain ⟨W, rfl⟩ : ∃ W : Nat, A = W := ⟨A.toNat, by have := h.1; omega⟩
    obtain ⟨p1, p2, p3⟩ := h
    have h1 : 1 ≤ W := by omega
    have h2 : W ≤ 128 := by omega
    have hn : N < 2 ^ W := by simpa using p3
    by_cases h' : RW A' N'
    · obtain ⟨V, rfl⟩ : ∃ V : Nat, A' = V := ⟨A'.toNat, by have := h'.1; omega⟩
      obtain ⟨q1, q2, q3⟩ := h'
      have k1 : 1 ≤ V := by omega
      have k2 : V ≤ 128 := by omega
      have hm : N' < 2 ^ V := by simpa using q3
      by_cases hs : W = V
      · subst hs
        clear p1 p2 p3 q1 q2 q3 k1 k2
        have wa := Wd.mk' h1 h2 hn
        have wb := Wd.mk' h1 h2 hm
        by_cases ho : 12 ≤ op ∧ op ≤ 28
        · obtain ⟨k, rfl⟩ : ∃ k : Nat, op = 12 + (k : Int) := ⟨(op - 12).toNat, by omega⟩
          by_cases hk5 : k ≤ 5
          · refine ⟨_, _, _, _, fun wx => ?_, fun wx => reftwo_word (N := lowop k W N N') h1 h2 hn hm (lowop_lt hn hm) (fun g g' c c' wy ha hb => rwords_low rfl hk5 ha hb h2 hn hm) wx⟩
            have hk6 : k = 0 ∨ k = 1 ∨ k = 2 ∨ k = 3 ∨ k = 4 ∨ k = 5 := by omega
            rcases hk6 with rfl | rfl | rfl | rfl | rfl | rfl
            · exact two_and wa wb wx
            · exact two_or wa wb wx
            · exact two_xor wa wb wx
            · exact two_nand wa wb wx
            · exact two_nor wa wb wx
            · exact two_xnor wa wb wx
          · have hk6 : k = 6 ∨ k = 7 ∨ k = 8 ∨ k = 9 ∨ k = 10 ∨ k = 11 ∨ k = 12 ∨ k = 13 ∨ k = 14 ∨ k = 15 ∨ k = 16 := by omega
            rcases hk6 with rfl | rfl | rfl | rfl | rfl | rfl | rfl | rfl | rfl | rfl | rfl
            · exact ⟨_, _, _, _, fun wx => two_add wa wb wx, fun wx => reftwo_word (N := lowop 6 W N N') h1 h2 hn hm (lowop_lt hn hm) (fun g g' c c' wy ha hb => rwords_add ha hb h2) wx⟩
            · exact ⟨_, _, _, _, fun wx => two_sub wa wb wx, fun wx => reftwo_word (N := lowop 7 W N N') h1 h2 hn hm (lowop_lt hn hm) (fun g g' c c' wy ha hb => rwords_sub ha hb h2 hm) wx⟩
            · exact ⟨_, _, _, _, fun wx => two_mul wa wb wx, fun wx => reftwo_word (N := lowop 8 W N N') h1 h2 hn hm (lowop_lt hn hm) (fun g g' c c' wy ha hb => rwords_mul ha hb h2 hm) wx⟩
            · exact ⟨_, _, _, _, fun wx => two_udiv wa wb wx, fun wx => reftwo_word h1 h2 hn hm (udiv_lt hn) (fun g g' c c' wy ha hb => rwords_udiv ha hb h1 h2 hn hm) wx⟩
            · exact ⟨_, _, _, _, fun wx => two_urem wa wb wx, fun wx => reftwo_word h1 h2 hn hm (urem_lt hn) (fun g g' c c' wy ha hb => rwords_urem ha hb h1 h2 hn hm) wx⟩
            · exact ⟨_, _, _, _, fun wx => two_signed (Or.inl ⟨rfl, rfl⟩) wa wb wx, fun wx => reftwo_word h1 h2 hn hm (sdiv_lt hn) (fun g g' c c' wy ha hb => rwords_sdiv ha hb h1 h2 hn hm (udiv_lt (wsign_lt hn))) wx⟩
            · exact ⟨_, _, _, _, fun wx => two_signed (Or.inr (Or.inl ⟨rfl, rfl⟩)) wa wb wx, fun wx => reftwo_word h1 h2 hn hm (srem_lt hn) (fun g g' c c' wy ha hb => rwords_srem ha hb h1 h2 hn hm (urem_lt (wsign_lt hn))) wx⟩
            · exact ⟨_, _, _, _, fun wx => two_signed (Or.inr (Or.inr ⟨rfl, rfl⟩)) wa wb wx, fun wx => reftwo_word h1 h2 hn hm (smod_lt hn) (fun g g' c c' wy ha hb => rwords_smod ha hb h1 h2 hn hm) wx⟩
            · exact ⟨_, _, _, _, fun wx => two_shl wa wb wx, fun wx => reftwo_word (N := sh 0 W N (dist N' W)) h1 h2 hn hm (sh_lt hn) (fun g g' c c' wy ha hb => rwords_shl ha hb h2 hm) wx⟩
            · exact ⟨_, _, _, _, fun wx => two_lshr wa wb wx, fun wx => reftwo_word (N := sh 1 W N (dist N' W)) h1 h2 hn hm (sh_lt hn) (fun g g' c c' wy ha hb => rwords_lshr ha hb h2 hn hm) wx⟩
            · refine ⟨_, _, _, _, fun wx => ?_, fun wx => reftwo_word (N := sh 2 W N (dist N' W)) h1 h2 hn hm (sh_lt hn) (fun g g' c c' wy ha hb => rwords_ashr ha hb h1 h2 hn hm) wx⟩
              cases hs : N.testBit (W - 1)
              · have e : sh 2 W N (dist N' W) = N / 2 ^ dist N' W := by simp [sh, hs]
                rw [e]; exact two_ashr0 wa wb hs wx
              · have e : sh 2 W N (dist N' W) = 2 ^ W - 1 - (2 ^ W - 1 - N) / 2 ^ dist N' W := by simp [sh, hs]
                rw [e]; exact two_ashr1 wa wb hs wx
        · by_cases hc : 29 ≤ op ∧ op ≤ 36
          · obtain ⟨k, rfl⟩ : ∃ k : Nat, op = 29 + (k : Int) := ⟨(op - 29).toNat, by omega⟩
            exact ⟨_, _, _, _, fun wx => two_cmp rfl (by omega) wa wb wx, fun wx => reftwo_cmp rfl (by omega) h1 h2 hn hm wx⟩
          · by_cases h8 : op = 8
            · subst h8
              exact ⟨_, _, _, _, fun wx => two_eq rfl wa wb wx, fun wx => reftwo_eq rfl h1 h2 hn hm wx⟩
            · by_cases h37 : op = 37
              · subst h37
                exact ⟨_, _, _, _, fun wx => two_comp rfl wa wb wx, fun wx => reftwo_comp rfl h1 h2 hn hm wx⟩
              · exact ⟨_, _, _, _, fun wx => two_bad (by omega) h8 h1 h2 hn hm wx, fun wx => reftwo_bad (by omega) h8 h1 h2 hn hm wx⟩
      · exact ⟨_, _, _, _, fun wx => two_wide h1 h2 hn k1 k2 hm (by simp; omega) (by simp; omega) wx, fun wx => reftwo_wide h1 h2 hn k1 k2 hm (by simp; omega) (by simp; omega) wx⟩
    · exact ⟨_, _, _, _, fun wx => two_nob h1 h2 hn (fun wy => isWord_no hN' h' wy) wx, fun wx => reftwo_nob h1 h2 hn (fun wy => refword_no hN' h' wy) wx⟩
  · exact ⟨_, _, _, _, fun wx => two_noa (fun wy => isWord_no hN h wy) wx, fun wx => reftwo_noa (fun wy => refword_no hN h wy) wx⟩

theorem one_pair {op A : Int} {N : Nat} (hN : N < 2 ^ 128) : ∃ K lo hi er : Int, (∀ wx, Calls Try.prog 44 #[.int .i64 op, .agg #[.int .i64 A, .int .u64 (LO (N)), .int .u64 (HI (N))]] wx fun e w' => e = .returned (.tuple #[.agg #[.int .i64 K, .int .u64 lo, .int .u64 hi], .int .i64 er]) ∧ Below wx.heap.size wx w') ∧ (∀ wx, Calls Try.prog 45 #[.int .i64 op, .agg #[.int .i64 A, .int .u64 (LO (N)), .int .u64 (HI (N))]] wx fun e w' => e = .returned (.tuple #[.agg #[.int .i64 K, .int .u64 lo, .int .u64 hi], .int .i64 er]) ∧ Below wx.heap.size wx w') := by
  by_cases h : RW A N
  · obtain ⟨W, rfl⟩ : ∃ W : Nat, A = W := ⟨A.toNat, by have := h.1; omega⟩
    obtain ⟨p1, p2, p3⟩ := h
    have h1 : 1 ≤ W := by omega
    have h2 : W ≤ 128 := by omega
    have hn : N < 2 ^ W := by simpa using p3
    by_cases h10 : op = 10
    · subst h10
      exact ⟨_, _, _, _, fun wx => one_not (Wd.mk' h1 h2 hn) wx, fun wx => refone_not h1 h2 hn wx⟩
    · by_cases h11 : op = 11
      · subst h11
        exact ⟨_, _, _, _, fun wx => one_neg (Wd.mk' h1 h2 hn) wx, fun wx => refone_neg h1 h2 hn wx⟩
      · exact ⟨_, _, _, _, fun wx => one_bad (by simp [h10]) (by simp [h11]) h1 h2 hn wx, fun wx => refone_bad (by simp [h10]) (by simp [h11]) h1 h2 hn wx⟩
  · exact ⟨_, _, _, _, fun wx => one_no (fun wy => isWord_no hN h wy) wx, fun wx => refone_no (fun wy => refword_no hN h wy) wx⟩

theorem bit_pair {A i : Int} {N : Nat} (hN : N < 2 ^ 128) : ∃ (b : Bool) (er : Int), (∀ wx, Calls Try.prog 13 #[.agg #[.int .i64 A, .int .u64 (LO (N)), .int .u64 (HI (N))], .int .i64 i] wx fun e w' => e = .returned (.tuple #[.bool b, .int .i64 er]) ∧ Below wx.heap.size wx w') ∧ (∀ wx, Calls Try.prog 14 #[.agg #[.int .i64 A, .int .u64 (LO (N)), .int .u64 (HI (N))], .int .i64 i] wx fun e w' => e = .returned (.tuple #[.bool b, .int .i64 er]) ∧ Below wx.heap.size wx w') := by
  by_cases h : RW A N
  · obtain ⟨W, rfl⟩ : ∃ W : Nat, A = W := ⟨A.toNat, by have := h.1; omega⟩
    obtain ⟨p1, p2, p3⟩ := h
    have h1 : 1 ≤ W := by omega
    have h2 : W ≤ 128 := by omega
    have hn : N < 2 ^ W := by simpa using p3
    by_cases hp : i < 0 ∨ (W : Int) ≤ i
    · exact ⟨_, _, fun wx => bit_place hp h1 h2 hn wx, fun wx => refbit_place hp h1 h2 hn wx⟩
    · obtain ⟨k, rfl⟩ : ∃ k : Nat, i = k := ⟨i.toNat, by omega⟩
      exact ⟨_, _, fun wx => bit_any (Wd.mk' h1 h2 hn) rfl (by omega) wx, fun wx => refbit_any (by omega) h1 h2 hn wx⟩
  · exact ⟨_, _, fun wx => bit_no (fun wy => isWord_no hN h wy) wx, fun wx => refbit_no (fun wy => refword_no hN h wy) wx⟩

theorem new_pair {i : Int} {N : Nat} (hN : N < 2 ^ 128) : ∃ K lo hi er : Int, (∀ wx, Calls Try.prog 15 #[.int .i64 i, .int .u64 (LO N), .int .u64 (HI N)] wx fun e w' => e = .returned (.tuple #[.agg #[.int .i64 K, .int .u64 lo, .int .u64 hi], .int .i64 er]) ∧ Below wx.heap.size wx w') ∧ (∀ wx, Calls Try.prog 16 #[.int .i64 i, .int .u64 (LO N), .int .u64 (HI N)] wx fun e w' => e = .returned (.tuple #[.agg #[.int .i64 K, .int .u64 lo, .int .u64 hi], .int .i64 er]) ∧ Below wx.heap.size wx w') := by
  by_cases h : i < 1 ∨ 128 < i
  · exact ⟨_, _, _, _, fun wx => new_out h wx, fun wx => refnew_out h wx⟩
  · obtain ⟨W, rfl⟩ : ∃ W : Nat, i = W := ⟨i.toNat, by omega⟩
    exact ⟨_, _, _, _, fun wx => new_any (by omega) (by omega) hN rfl rfl rfl rfl wx, fun wx => refnew_any (by omega) (by omega) hN rfl rfl rfl wx⟩

theorem right_pair {A : Int} {N : Nat} (hN : N < 2 ^ 128) : ∃ b : Bool, (∀ wx, Calls Try.prog 10 #[.agg #[.int .i64 A, .int .u64 (LO (N)), .int .u64 (HI (N))]] wx fun e w' => e = .returned (.bool b) ∧ Below wx.heap.size wx w') ∧ (∀ wx, Calls Try.prog 11 #[.agg #[.int .i64 A, .int .u64 (LO (N)), .int .u64 (HI (N))]] wx fun e w' => e = .returned (.bool b) ∧ Below wx.heap.size wx w') := by
  by_cases h0 : A = 0
  · subst h0
    refine ⟨_, fun wx => right_0 rfl rfl wx, fun wx => ?_⟩
    rw [two_b hN]; exact refright_0 wx
  · by_cases ho : A < 0 ∨ 128 < A
    · exact ⟨_, fun wx => right_out ho wx, fun wx => refright_out ho wx⟩
    · obtain ⟨W, rfl⟩ : ∃ W : Nat, A = W := ⟨A.toNat, by omega⟩
      by_cases hn : N < 2 ^ W
      · exact ⟨_, fun wx => right_any (Wd.mk' (by omega) (by omega) hn) wx, fun wx => refright_w (by omega) (by omega) hN rfl (eqB_yes (Nat.mod_eq_of_lt hn)) wx⟩
      · exact ⟨_, fun wx => right_big (by omega) (by omega) hN hn wx, fun wx => refright_w (by omega) (by omega) hN rfl (eqB_no fun e => hn (by rw [← e]; exact mod_lt_W _ _)) wx⟩
end Go.Proofs.Ytjcmnhipiejnpaa
