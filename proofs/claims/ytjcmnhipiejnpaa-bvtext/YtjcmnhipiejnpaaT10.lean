/- The program and the document read texts the same way; what is written is read again. -/
import Derived.Test.YtjcmnhipiejnpaaT8
import Derived.Test.YtjcmnhipiejnpaaT9
namespace Go.Proofs.Ytjcmnhipiejnpaa
open Go.RowKit
set_option linter.unusedSimpArgs false
set_option linter.unusedVariables false

theorem ext_list (s : ByteArray) : (s.extract 2 s.size).data.toList = s.data.toList.drop 2 := by
  rw [ByteArray.data_extract, Array.toList_extract, List.extract_eq_take_drop]
  apply List.take_of_length_le
  rw [List.length_drop]; exact Nat.le_refl _
theorem ext_size (s : ByteArray) : (s.extract 2 s.size).size = s.size - 2 := by rw [ByteArray.size_extract, Nat.min_self]
theorem pre_yes {s : ByteArray} {c : UInt8} (p0 : 0 < s.size) (p1 : 1 < s.size) (h0 : (s[0]'p0).toNat = 35) (h1 : (s[1]'p1) = c) : Lib.hasPrefix s.data.toList [35, c] = true := by
  have a := byte_at p0
  have b := byte_at p1
  have h0' : s[0]'p0 = 35 := UInt8.toNat_inj.1 h0
  rw [h0'] at a
  rw [h1] at b
  generalize s.data.toList = l at a b
  match l, a, b with
  | x :: y :: l, a, b =>
    simp at a b
    subst a b
    simp [Lib.hasPrefix, List.isPrefixOf]
theorem pre_no0 {s : ByteArray} {c : UInt8} (p0 : 0 < s.size) (h0 : ¬ (s[0]'p0).toNat = 35) : Lib.hasPrefix s.data.toList [35, c] = false := by
  have a := byte_at p0
  have h0' : ¬ s[0]'p0 = 35 := fun e => h0 (by rw [e]; rfl)
  generalize hx : s[0]'p0 = x at a h0'
  generalize s.data.toList = l at a
  match l, a with
  | y :: l, a =>
    simp at a
    subst a
    simp [Lib.hasPrefix, List.isPrefixOf, Ne.symm h0']
theorem pre_no1 {s : ByteArray} {c : UInt8} (p1 : 1 < s.size) (h1 : ¬ (s[1]'p1) = c) : Lib.hasPrefix s.data.toList [35, c] = false := by
  have b := byte_at p1
  generalize hx : s[1]'p1 = x at b h1
  generalize s.data.toList = l at b
  match l, b with
  | z :: y :: l, b =>
    simp at b
    subst b
    simp [Lib.hasPrefix, List.isPrefixOf, Ne.symm h1]
theorem pre_short {s : ByteArray} {c : UInt8} (h : s.size < 2) : Lib.hasPrefix s.data.toList [35, c] = false := by
  have hl : s.data.toList.length < 2 := h
  generalize s.data.toList = l at hl
  match l, hl with
  | [], _ => rfl
  | [x], _ => simp [Lib.hasPrefix, List.isPrefixOf]

abbrev PPair (s : ByteArray) : Prop := ∃ K lo hi er : Int, (∀ wx, Calls Try.prog 29 #[.string s] wx fun e w' => e = .returned (.tuple #[.agg #[.int .i64 K, .int .u64 lo, .int .u64 hi], .int .i64 er]) ∧ Below wx.heap.size wx w') ∧ (∀ wx, Calls Try.prog 30 #[.string s] wx fun e w' => e = .returned (.tuple #[.agg #[.int .i64 K, .int .u64 lo, .int .u64 hi], .int .i64 er]) ∧ Below wx.heap.size wx w')

theorem u8_of {c : UInt8} {d : UInt8} (h : c.toNat = d.toNat) : c = d := UInt8.toNat_inj.1 h

theorem parse_pair (s : ByteArray) (h400 : s.size ≤ 400) : PPair s := by
  cases e1 : (s.toList == [116, 114, 117, 101])
  · cases e2 : (s.toList == [102, 97, 108, 115, 101])
    · by_cases n3 : s.size < 3
      · -- too short
        have hd : ∀ (b : Nat), b = 1 ∨ b = 4 → s.size = 2 → ∀ wx, Calls Try.prog 58 #[.string (s.extract 2 s.size), .int .i64 (b : Int)] wx fun e w' => e = .returned (.tuple #[.agg #[.int .i64 0, .int .u64 0, .int .u64 0], .int .i64 13]) ∧ Below wx.heap.size wx w' := fun b hb h2 wx =>
          digits_out hb (m := 0) (by rw [ext_size]; omega) (by omega) (by omega) wx
        refine ⟨0, 0, 0, 13, fun wx => ?_, fun wx => refparse_short e1 e2 rfl n3 wx⟩
        cases hp : Lib.hasPrefix s.data.toList [35, 98]
        · cases hp2 : Lib.hasPrefix s.data.toList [35, 120]
          · exact parse_none e1 e2 hp hp2 wx
          · have h2 : s.size = 2 := by
              rcases Nat.lt_or_ge s.size 2 with h | h
              · rw [pre_short h] at hp2; cases hp2
              · omega
            exact parse_hex e1 e2 (by omega) h400 hp hp2 (fun wy => hd 4 (Or.inr rfl) h2 wy) wx
        · have h2 : s.size = 2 := by
            rcases Nat.lt_or_ge s.size 2 with h | h
            · rw [pre_short h] at hp; cases hp
            · omega
          exact parse_bin e1 e2 (by omega) h400 hp (fun wy => hd 1 (Or.inl rfl) h2 wy) wx
      · have n3' : 3 ≤ s.size := by omega
        have p0 : 0 < s.size := by omega
        have p1 : 1 < s.size := by omega
        by_cases q0 : (s[0]'p0).toNat = 35
        · by_cases q1 : (s[1]'p1).toNat = 98
          · have hp := pre_yes (c := 98) p0 p1 q0 (u8_of q1)
            by_cases hw : (s.size - 2) * 1 ≤ 128
            · have A := fun wx => digits_any (t := s.extract 2 s.size) (b := 1) (m := s.size - 2) (Or.inl rfl) (ext_size s) (by omega) hw wx
              have B := fun wx => refparse_bin e1 e2 rfl n3' hw p0 p1 q0 q1 wx
              rw [ext_list] at A
              cases ho : okd 1 (s.data.toList.drop 2)
              · rw [ho] at A B
                exact ⟨_, _, _, _, fun wx => parse_bin e1 e2 (by omega) h400 hp (fun wy => A wy) wx, B⟩
              · rw [ho] at A B
                exact ⟨_, _, _, _, fun wx => parse_bin e1 e2 (by omega) h400 hp (fun wy => A wy) wx, B⟩
            · exact ⟨_, _, _, _, fun wx => parse_bin e1 e2 (by omega) h400 hp (fun wy => digits_out (b := 1) (Or.inl rfl) (ext_size s) (by omega) (Or.inr (by omega)) wy) wx, fun wx => refparse_wb e1 e2 rfl n3' h400 p0 p1 q0 q1 (by omega) wx⟩
          · have hp := pre_no1 (c := 98) p1 (fun e => q1 (by rw [e]; rfl))
            by_cases q2 : (s[1]'p1).toNat = 120
            · have hp2 := pre_yes (c := 120) p0 p1 q0 (u8_of q2)
              by_cases hw : (s.size - 2) * 4 ≤ 128
              · have A := fun wx => digits_any (t := s.extract 2 s.size) (b := 4) (m := s.size - 2) (Or.inr rfl) (ext_size s) (by omega) hw wx
                have B := fun wx => refparse_hex e1 e2 rfl n3' hw p0 p1 q0 q2 wx
                rw [ext_list] at A
                cases ho : okd 4 (s.data.toList.drop 2)
                · rw [ho] at A B
                  exact ⟨_, _, _, _, fun wx => parse_hex e1 e2 (by omega) h400 hp hp2 (fun wy => A wy) wx, B⟩
                · rw [ho] at A B
                  exact ⟨_, _, _, _, fun wx => parse_hex e1 e2 (by omega) h400 hp hp2 (fun wy => A wy) wx, B⟩
              · exact ⟨_, _, _, _, fun wx => parse_hex e1 e2 (by omega) h400 hp hp2 (fun wy => digits_out (b := 4) (Or.inr rfl) (ext_size s) (by omega) (Or.inr (by omega)) wy) wx, fun wx => refparse_wx e1 e2 rfl n3' h400 p0 p1 q0 q2 (by omega) wx⟩
            · have hp2 := pre_no1 (c := 120) p1 (fun e => q2 (by rw [e]; rfl))
              exact ⟨_, _, _, _, fun wx => parse_none e1 e2 hp hp2 wx, fun wx => refparse_c1 e1 e2 rfl n3' h400 p0 p1 q0 (by omega) (by omega) wx⟩
        · exact ⟨_, _, _, _, fun wx => parse_none e1 e2 (pre_no0 p0 q0) (pre_no0 p0 q0) wx, fun wx => refparse_c0 e1 e2 rfl n3' h400 p0 p1 (by omega) wx⟩
    · exact ⟨_, _, _, _, fun wx => parse_false e1 e2 wx, fun wx => refparse_false e1 e2 wx⟩
  · exact ⟨_, _, _, _, fun wx => parse_true e1 wx, fun wx => refparse_true e1 wx⟩

/-- What is written is read again. -/
theorem sgns_ok (W n : Nat) : okd 1 (sgns W n W) = true := by
  simp only [okd, sgns, List.all_map, List.all_eq_true, Function.comp]
  intro j _
  by_cases h : n.testBit (W - 1 - j) = true <;> simp [h, dig]
theorem sgns_val (W n : Nat) : ∀ k, k ≤ W → val 1 (sgns W n k) 0 = n % 2 ^ W / 2 ^ (W - k)
  | 0, _ => by
    simp [sgns, val]
  | k + 1, hk => by
    have ih := sgns_val W n k (by omega)
    have e : sgns W n (k + 1) = sgns W n k ++ [if n.testBit (W - 1 - k) then 49 else 48] := by simp [sgns, List.range_succ]
    rw [e, val_append, ih]
    have hs := high_step (x := n % 2 ^ W) (k := W - (k + 1))
    have e2 : W - (k + 1) + 1 = W - k := by omega
    rw [e2] at hs
    rw [hs, Nat.testBit_mod_two_pow, show W - (k + 1) = W - 1 - k by omega, show decide (W - 1 - k < W) = true by simp; omega, Bool.true_and]
    cases n.testBit (W - 1 - k)
    · simp [dig]; omega
    · simp [dig]; omega
theorem back_word {W n : Nat} (h1 : 1 ≤ W) (h2 : W ≤ 128) (hn : n < 2 ^ W) (wx : World) :
    Calls Try.prog 29 #[.string ⟨(txt W n W).toArray⟩] wx fun e w' => e = .returned (.tuple #[.agg #[.int .i64 W, .int .u64 (LO (n)), .int .u64 (HI (n))], .int .i64 0]) ∧ Below wx.heap.size wx w' := by
  obtain ⟨s, hs⟩ : ∃ s : ByteArray, s = ⟨(txt W n W).toArray⟩ := ⟨_, rfl⟩
  have hl : s.data.toList = txt W n W := by rw [hs]
  have hz : s.size = W + 2 := by
    have : s.data.toList.length = W + 2 := by rw [hl, txt_len]
    exact this
  have ht : s.toList = txt W n W := by rw [ByteArray.toList_eq, hl]
  rw [← hs]
  have e1 : (s.toList == [116, 114, 117, 101]) = false := by rw [ht]; simp [txt]
  have e2 : (s.toList == [102, 97, 108, 115, 101]) = false := by rw [ht]; simp [txt]
  have hp : Lib.hasPrefix s.data.toList [35, 98] = true := by rw [hl]; simp [txt, Lib.hasPrefix, List.isPrefixOf]
  have hd : s.data.toList.drop 2 = sgns W n W := by rw [hl]; rfl
  have hv : val 1 (sgns W n W) 0 = n := by rw [sgns_val W n W (Nat.le_refl _), Nat.sub_self]; simp [Nat.mod_eq_of_lt hn]
  refine parse_bin e1 e2 (by omega) (by omega) hp (fun wy => ?_) wx
  have A := digits_any (t := s.extract 2 s.size) (b := 1) (m := W) (Or.inl rfl) (by rw [ext_size]; omega) h1 (by omega) wy
  rw [ext_list, hd, sgns_ok, hv, Nat.mul_one] at A
  exact A
theorem back_bool (c : Bool) (wx : World) :
    Calls Try.prog 29 #[.string (btxt c)] wx fun e w' => e = .returned (.tuple #[.agg #[.int .i64 0, .int .u64 (LO (b01 c)), .int .u64 (HI (b01 c))], .int .i64 0]) ∧ Below wx.heap.size wx w' := by
  cases c
  · exact parse_false (by rw [ByteArray.toList_eq]; rfl) (by rw [ByteArray.toList_eq]; rfl) wx
  · exact parse_true (by rw [ByteArray.toList_eq]; rfl) wx

theorem text_pair {A : Int} {N : Nat} (hN : N < 2 ^ 128) : ∃ (c : Bool) (st : ByteArray), (∀ wx, Calls Try.prog 10 #[.agg #[.int .i64 A, .int .u64 (LO (N)), .int .u64 (HI (N))]] wx fun e w' => e = .returned (.bool c) ∧ Below wx.heap.size wx w') ∧ (∀ wx, Calls Try.prog 31 #[.agg #[.int .i64 A, .int .u64 (LO (N)), .int .u64 (HI (N))]] wx fun e w' => e = .returned (.string st) ∧ Below wx.heap.size wx w') ∧ (∀ wx, Calls Try.prog 32 #[.agg #[.int .i64 A, .int .u64 (LO (N)), .int .u64 (HI (N))]] wx fun e w' => e = .returned (.string st) ∧ Below wx.heap.size wx w') ∧ (c = false → st = ⟨#[]⟩) ∧ (c = true → ∀ wx, Calls Try.prog 29 #[.string st] wx fun e w' => e = .returned (.tuple #[.agg #[.int .i64 A, .int .u64 (LO (N)), .int .u64 (HI (N))], .int .i64 0]) ∧ Below wx.heap.size wx w') := by
  by_cases h0 : A = 0
  · subst h0
    have hr := two_b hN
    have R1 := fun wx => right_0 (N := N) rfl rfl wx
    have R2 := fun wx => refright_0 (N := N) wx
    rw [← hr] at R2
    cases hc : (eqB N (b01 false) || eqB N (b01 true))
    · rw [hc] at R1 R2
      exact ⟨false, ⟨#[]⟩, R1, fun wx => text_no R1 wx, fun wx => reftext_no R2 wx, fun _ => rfl, (fun h => nomatch h)⟩
    · rw [hc] at R1 R2
      obtain ⟨c, rfl⟩ : ∃ c, N = b01 c := by
        rcases Bool.or_eq_true_iff.1 hc with h | h
        · exact ⟨false, by simpa [eqB] using h⟩
        · exact ⟨true, by simpa [eqB] using h⟩
      exact ⟨true, btxt c, R1, fun wx => text_bool c R1 wx, fun wx => reftext_bool c R2 wx, (fun h => nomatch h), fun _ wx => back_bool c wx⟩
  · by_cases ho : A < 0 ∨ 128 < A
    · exact ⟨false, ⟨#[]⟩, fun wx => right_out ho wx, fun wx => text_no (fun wy => right_out ho wy) wx, fun wx => reftext_no (fun wy => refright_out ho wy) wx, fun _ => rfl, (fun h => nomatch h)⟩
    · obtain ⟨W, rfl⟩ : ∃ W : Nat, A = W := ⟨A.toNat, by omega⟩
      by_cases hn : N < 2 ^ W
      · exact ⟨true, _, fun wx => right_any (Wd.mk' (by omega) (by omega) hn) wx, fun wx => text_word (by omega) (by omega) hn wx, fun wx => reftext_word (by omega) (by omega) hn wx, (fun h => nomatch h), fun _ wx => back_word (by omega) (by omega) hn wx⟩
      · exact ⟨false, ⟨#[]⟩, fun wx => right_big (by omega) (by omega) hN hn wx, fun wx => text_no (fun wy => right_big (by omega) (by omega) hN hn wy) wx, fun wx => reftext_no (fun wy => refright_w (by omega) (by omega) hN rfl (eqB_no fun e => hn (by rw [← e]; exact mod_lt_W _ _)) wy) wx, fun _ => rfl, (fun h => nomatch h)⟩
end Go.Proofs.Ytjcmnhipiejnpaa
