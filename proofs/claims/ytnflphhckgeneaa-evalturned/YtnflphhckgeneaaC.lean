/- Contracts: bit by bit, sums by operator, signs, shifts, comparisons. -/
import Derived.Test.YtnflphhckgeneaaMg8
namespace Go.Proofs.Ytnflphhckgeneaa
open Go.RowKit
set_option linter.unusedSimpArgs false
set_option linter.unusedVariables false

set_option maxHeartbeats 400000 in
theorem bitwise_and {W n m : Nat} {WW lo hi WW' lo' hi' : Int} (hw : Wd WW lo hi W n) (hw' : Wd WW' lo' hi' W m) (w : World) :
    Calls Try.prog 72 #[.int .i64 12, .agg #[.int .i64 WW, .int .u64 lo, .int .u64 hi], .agg #[.int .i64 WW', .int .u64 lo', .int .u64 hi']] w fun e w' => e = .returned (.agg #[.int .i64 W, .int .u64 (LO (n &&& m)), .int .u64 (HI (n &&& m))]) ∧ Below w.heap.size w w' := by
  have hbig := hw.big
  have hbig' := hw'.big
  obtain ⟨h1, h2, hn, rfl, rfl, rfl⟩ := hw
  obtain ⟨-, -, hn', rfl, rfl, rfl⟩ := hw'
  have hlt : n &&& m < 2 ^ W := Nat.and_lt_two_pow _ hn'
  go_enter Try.func72, Try.ntmps72
  go_wp2_with fail
  refine (cut_any (m := n &&& m) (r := n &&& m) h1 h2 (Nat.lt_of_lt_of_le hlt (pow_le_128 h2)) (Nat.mod_eq_of_lt hlt) rfl (lo_and n m) (hi_and hbig hbig') _).mono ?_
  rintro e w1 ⟨rfl, hb1⟩
  have hb1' := below_step (w := w) (by go_grown) hb1
  have hs1 := hb1'.size
  have hz1_0 : w.heap.size < w1.heap.size := by have := hb1.size; (try simp at this); omega
  have hz1_1 : w.heap.size + 1 < w1.heap.size := by have := hb1.size; (try simp at this); omega
  have hz1_2 : w.heap.size + 1 + 1 < w1.heap.size := by have := hb1.size; (try simp at this); omega
  have hz1_3 : w.heap.size + 1 + 1 + 1 < w1.heap.size := by have := hb1.size; (try simp at this); omega
  obtain ⟨hc1, hf1⟩ := bcell hb1
  go_wp2_with fail
  refine bodyPost_ret (v := .agg #[.int .i64 W, .int .u64 (LO (n &&& m)), .int .u64 (HI (n &&& m))]) (by simp [results, Try.results72, go_sem, *]) rfl ?_
  exact ⟨rfl, by go_grown⟩

set_option maxHeartbeats 400000 in
theorem bitwise_nand {W n m : Nat} {WW lo hi WW' lo' hi' : Int} (hw : Wd WW lo hi W n) (hw' : Wd WW' lo' hi' W m) (w : World) :
    Calls Try.prog 72 #[.int .i64 15, .agg #[.int .i64 WW, .int .u64 lo, .int .u64 hi], .agg #[.int .i64 WW', .int .u64 lo', .int .u64 hi']] w fun e w' => e = .returned (.agg #[.int .i64 W, .int .u64 (LO (2 ^ W - 1 - (n &&& m))), .int .u64 (HI (2 ^ W - 1 - (n &&& m)))]) ∧ Below w.heap.size w w' := by
  have hbig := hw.big
  have hbig' := hw'.big
  obtain ⟨h1, h2, hn, rfl, rfl, rfl⟩ := hw
  obtain ⟨-, -, hn', rfl, rfl, rfl⟩ := hw'
  have hlt : n &&& m < 2 ^ W := Nat.and_lt_two_pow _ hn'
  go_enter Try.func72, Try.ntmps72
  go_wp2_with fail
  refine (cut_any (m := n &&& m) (r := n &&& m) h1 h2 (Nat.lt_of_lt_of_le hlt (pow_le_128 h2)) (Nat.mod_eq_of_lt hlt) rfl (lo_and n m) (hi_and hbig hbig') _).mono ?_
  rintro e w1 ⟨rfl, hb1⟩
  have hb1' := below_step (w := w) (by go_grown) hb1
  have hs1 := hb1'.size
  have hz1_0 : w.heap.size < w1.heap.size := by have := hb1.size; (try simp at this); omega
  have hz1_1 : w.heap.size + 1 < w1.heap.size := by have := hb1.size; (try simp at this); omega
  have hz1_2 : w.heap.size + 1 + 1 < w1.heap.size := by have := hb1.size; (try simp at this); omega
  have hz1_3 : w.heap.size + 1 + 1 + 1 < w1.heap.size := by have := hb1.size; (try simp at this); omega
  obtain ⟨hc1, hf1⟩ := bcell hb1
  go_wp2_with fail
  refine (turn_any (Wd.mk' h1 h2 hlt) _).mono ?_
  rintro e w2 ⟨rfl, hb2⟩
  have hb2' := below_step (w := w) (by go_grown) hb2
  have hs2 := hb2'.size
  have hz2_0 : w.heap.size < w2.heap.size := by have := hb2.size; (try simp at this); omega
  have hz2_1 : w.heap.size + 1 < w2.heap.size := by have := hb2.size; (try simp at this); omega
  have hz2_2 : w.heap.size + 1 + 1 < w2.heap.size := by have := hb2.size; (try simp at this); omega
  have hz2_3 : w.heap.size + 1 + 1 + 1 < w2.heap.size := by have := hb2.size; (try simp at this); omega
  obtain ⟨hc2, hf2⟩ := bcell hb2
  go_wp2_with fail
  refine bodyPost_ret (v := .agg #[.int .i64 W, .int .u64 (LO (2 ^ W - 1 - (n &&& m))), .int .u64 (HI (2 ^ W - 1 - (n &&& m)))]) (by simp [results, Try.results72, go_sem, *]) rfl ?_
  exact ⟨rfl, by go_grown⟩

set_option maxHeartbeats 400000 in
theorem bitwise_or {W n m : Nat} {WW lo hi WW' lo' hi' : Int} (hw : Wd WW lo hi W n) (hw' : Wd WW' lo' hi' W m) (w : World) :
    Calls Try.prog 72 #[.int .i64 13, .agg #[.int .i64 WW, .int .u64 lo, .int .u64 hi], .agg #[.int .i64 WW', .int .u64 lo', .int .u64 hi']] w fun e w' => e = .returned (.agg #[.int .i64 W, .int .u64 (LO (n ||| m)), .int .u64 (HI (n ||| m))]) ∧ Below w.heap.size w w' := by
  have hbig := hw.big
  have hbig' := hw'.big
  obtain ⟨h1, h2, hn, rfl, rfl, rfl⟩ := hw
  obtain ⟨-, -, hn', rfl, rfl, rfl⟩ := hw'
  have hlt : n ||| m < 2 ^ W := Nat.or_lt_two_pow hn hn'
  go_enter Try.func72, Try.ntmps72
  go_wp2_with fail
  refine (cut_any (m := n ||| m) (r := n ||| m) h1 h2 (Nat.lt_of_lt_of_le hlt (pow_le_128 h2)) (Nat.mod_eq_of_lt hlt) rfl (lo_or n m) (hi_or hbig hbig') _).mono ?_
  rintro e w1 ⟨rfl, hb1⟩
  have hb1' := below_step (w := w) (by go_grown) hb1
  have hs1 := hb1'.size
  have hz1_0 : w.heap.size < w1.heap.size := by have := hb1.size; (try simp at this); omega
  have hz1_1 : w.heap.size + 1 < w1.heap.size := by have := hb1.size; (try simp at this); omega
  have hz1_2 : w.heap.size + 1 + 1 < w1.heap.size := by have := hb1.size; (try simp at this); omega
  have hz1_3 : w.heap.size + 1 + 1 + 1 < w1.heap.size := by have := hb1.size; (try simp at this); omega
  obtain ⟨hc1, hf1⟩ := bcell hb1
  go_wp2_with fail
  refine bodyPost_ret (v := .agg #[.int .i64 W, .int .u64 (LO (n ||| m)), .int .u64 (HI (n ||| m))]) (by simp [results, Try.results72, go_sem, *]) rfl ?_
  exact ⟨rfl, by go_grown⟩

set_option maxHeartbeats 400000 in
theorem bitwise_nor {W n m : Nat} {WW lo hi WW' lo' hi' : Int} (hw : Wd WW lo hi W n) (hw' : Wd WW' lo' hi' W m) (w : World) :
    Calls Try.prog 72 #[.int .i64 16, .agg #[.int .i64 WW, .int .u64 lo, .int .u64 hi], .agg #[.int .i64 WW', .int .u64 lo', .int .u64 hi']] w fun e w' => e = .returned (.agg #[.int .i64 W, .int .u64 (LO (2 ^ W - 1 - (n ||| m))), .int .u64 (HI (2 ^ W - 1 - (n ||| m)))]) ∧ Below w.heap.size w w' := by
  have hbig := hw.big
  have hbig' := hw'.big
  obtain ⟨h1, h2, hn, rfl, rfl, rfl⟩ := hw
  obtain ⟨-, -, hn', rfl, rfl, rfl⟩ := hw'
  have hlt : n ||| m < 2 ^ W := Nat.or_lt_two_pow hn hn'
  go_enter Try.func72, Try.ntmps72
  go_wp2_with fail
  refine (cut_any (m := n ||| m) (r := n ||| m) h1 h2 (Nat.lt_of_lt_of_le hlt (pow_le_128 h2)) (Nat.mod_eq_of_lt hlt) rfl (lo_or n m) (hi_or hbig hbig') _).mono ?_
  rintro e w1 ⟨rfl, hb1⟩
  have hb1' := below_step (w := w) (by go_grown) hb1
  have hs1 := hb1'.size
  have hz1_0 : w.heap.size < w1.heap.size := by have := hb1.size; (try simp at this); omega
  have hz1_1 : w.heap.size + 1 < w1.heap.size := by have := hb1.size; (try simp at this); omega
  have hz1_2 : w.heap.size + 1 + 1 < w1.heap.size := by have := hb1.size; (try simp at this); omega
  have hz1_3 : w.heap.size + 1 + 1 + 1 < w1.heap.size := by have := hb1.size; (try simp at this); omega
  obtain ⟨hc1, hf1⟩ := bcell hb1
  go_wp2_with fail
  refine (turn_any (Wd.mk' h1 h2 hlt) _).mono ?_
  rintro e w2 ⟨rfl, hb2⟩
  have hb2' := below_step (w := w) (by go_grown) hb2
  have hs2 := hb2'.size
  have hz2_0 : w.heap.size < w2.heap.size := by have := hb2.size; (try simp at this); omega
  have hz2_1 : w.heap.size + 1 < w2.heap.size := by have := hb2.size; (try simp at this); omega
  have hz2_2 : w.heap.size + 1 + 1 < w2.heap.size := by have := hb2.size; (try simp at this); omega
  have hz2_3 : w.heap.size + 1 + 1 + 1 < w2.heap.size := by have := hb2.size; (try simp at this); omega
  obtain ⟨hc2, hf2⟩ := bcell hb2
  go_wp2_with fail
  refine bodyPost_ret (v := .agg #[.int .i64 W, .int .u64 (LO (2 ^ W - 1 - (n ||| m))), .int .u64 (HI (2 ^ W - 1 - (n ||| m)))]) (by simp [results, Try.results72, go_sem, *]) rfl ?_
  exact ⟨rfl, by go_grown⟩

set_option maxHeartbeats 400000 in
theorem bitwise_xor {W n m : Nat} {WW lo hi WW' lo' hi' : Int} (hw : Wd WW lo hi W n) (hw' : Wd WW' lo' hi' W m) (w : World) :
    Calls Try.prog 72 #[.int .i64 14, .agg #[.int .i64 WW, .int .u64 lo, .int .u64 hi], .agg #[.int .i64 WW', .int .u64 lo', .int .u64 hi']] w fun e w' => e = .returned (.agg #[.int .i64 W, .int .u64 (LO (n ^^^ m)), .int .u64 (HI (n ^^^ m))]) ∧ Below w.heap.size w w' := by
  have hbig := hw.big
  have hbig' := hw'.big
  obtain ⟨h1, h2, hn, rfl, rfl, rfl⟩ := hw
  obtain ⟨-, -, hn', rfl, rfl, rfl⟩ := hw'
  have hlt : n ^^^ m < 2 ^ W := Nat.xor_lt_two_pow hn hn'
  go_enter Try.func72, Try.ntmps72
  go_wp2_with fail
  refine (cut_any (m := n ^^^ m) (r := n ^^^ m) h1 h2 (Nat.lt_of_lt_of_le hlt (pow_le_128 h2)) (Nat.mod_eq_of_lt hlt) rfl (lo_xor n m) (hi_xor hbig hbig') _).mono ?_
  rintro e w1 ⟨rfl, hb1⟩
  have hb1' := below_step (w := w) (by go_grown) hb1
  have hs1 := hb1'.size
  have hz1_0 : w.heap.size < w1.heap.size := by have := hb1.size; (try simp at this); omega
  have hz1_1 : w.heap.size + 1 < w1.heap.size := by have := hb1.size; (try simp at this); omega
  have hz1_2 : w.heap.size + 1 + 1 < w1.heap.size := by have := hb1.size; (try simp at this); omega
  have hz1_3 : w.heap.size + 1 + 1 + 1 < w1.heap.size := by have := hb1.size; (try simp at this); omega
  obtain ⟨hc1, hf1⟩ := bcell hb1
  go_wp2_with fail
  refine bodyPost_ret (v := .agg #[.int .i64 W, .int .u64 (LO (n ^^^ m)), .int .u64 (HI (n ^^^ m))]) (by simp [results, Try.results72, go_sem, *]) rfl ?_
  exact ⟨rfl, by go_grown⟩

set_option maxHeartbeats 400000 in
theorem bitwise_nxor {W n m : Nat} {WW lo hi WW' lo' hi' : Int} (hw : Wd WW lo hi W n) (hw' : Wd WW' lo' hi' W m) (w : World) :
    Calls Try.prog 72 #[.int .i64 17, .agg #[.int .i64 WW, .int .u64 lo, .int .u64 hi], .agg #[.int .i64 WW', .int .u64 lo', .int .u64 hi']] w fun e w' => e = .returned (.agg #[.int .i64 W, .int .u64 (LO (2 ^ W - 1 - (n ^^^ m))), .int .u64 (HI (2 ^ W - 1 - (n ^^^ m)))]) ∧ Below w.heap.size w w' := by
  have hbig := hw.big
  have hbig' := hw'.big
  obtain ⟨h1, h2, hn, rfl, rfl, rfl⟩ := hw
  obtain ⟨-, -, hn', rfl, rfl, rfl⟩ := hw'
  have hlt : n ^^^ m < 2 ^ W := Nat.xor_lt_two_pow hn hn'
  go_enter Try.func72, Try.ntmps72
  go_wp2_with fail
  refine (cut_any (m := n ^^^ m) (r := n ^^^ m) h1 h2 (Nat.lt_of_lt_of_le hlt (pow_le_128 h2)) (Nat.mod_eq_of_lt hlt) rfl (lo_xor n m) (hi_xor hbig hbig') _).mono ?_
  rintro e w1 ⟨rfl, hb1⟩
  have hb1' := below_step (w := w) (by go_grown) hb1
  have hs1 := hb1'.size
  have hz1_0 : w.heap.size < w1.heap.size := by have := hb1.size; (try simp at this); omega
  have hz1_1 : w.heap.size + 1 < w1.heap.size := by have := hb1.size; (try simp at this); omega
  have hz1_2 : w.heap.size + 1 + 1 < w1.heap.size := by have := hb1.size; (try simp at this); omega
  have hz1_3 : w.heap.size + 1 + 1 + 1 < w1.heap.size := by have := hb1.size; (try simp at this); omega
  obtain ⟨hc1, hf1⟩ := bcell hb1
  go_wp2_with fail
  refine (turn_any (Wd.mk' h1 h2 hlt) _).mono ?_
  rintro e w2 ⟨rfl, hb2⟩
  have hb2' := below_step (w := w) (by go_grown) hb2
  have hs2 := hb2'.size
  have hz2_0 : w.heap.size < w2.heap.size := by have := hb2.size; (try simp at this); omega
  have hz2_1 : w.heap.size + 1 < w2.heap.size := by have := hb2.size; (try simp at this); omega
  have hz2_2 : w.heap.size + 1 + 1 < w2.heap.size := by have := hb2.size; (try simp at this); omega
  have hz2_3 : w.heap.size + 1 + 1 + 1 < w2.heap.size := by have := hb2.size; (try simp at this); omega
  obtain ⟨hc2, hf2⟩ := bcell hb2
  go_wp2_with fail
  refine bodyPost_ret (v := .agg #[.int .i64 W, .int .u64 (LO (2 ^ W - 1 - (n ^^^ m))), .int .u64 (HI (2 ^ W - 1 - (n ^^^ m)))]) (by simp [results, Try.results72, go_sem, *]) rfl ?_
  exact ⟨rfl, by go_grown⟩

set_option maxHeartbeats 400000 in
theorem arith_add {W n m : Nat} {WW lo hi WW' lo' hi' : Int} (hw : Wd WW lo hi W n) (hw' : Wd WW' lo' hi' W m) (w : World) :
    Calls Try.prog 74 #[.int .i64 18, .agg #[.int .i64 WW, .int .u64 lo, .int .u64 hi], .agg #[.int .i64 WW', .int .u64 lo', .int .u64 hi']] w fun e w' => e = .returned (.agg #[.int .i64 W, .int .u64 (LO ((n + m) % 2 ^ W)), .int .u64 (HI ((n + m) % 2 ^ W))]) ∧ Below w.heap.size w w' := by
  obtain ⟨h1, h2, hn, rfl, rfl, rfl⟩ := hw
  obtain ⟨-, -, hn', rfl, rfl, rfl⟩ := hw'
  go_enter Try.func74, Try.ntmps74
  go_wp2_with fail
  refine (add_any (Wd.mk' h1 h2 hn) (Wd.mk' h1 h2 hn') _).mono ?_
  rintro e w1 ⟨rfl, hb1⟩
  have hb1' := below_step (w := w) (by go_grown) hb1
  have hs1 := hb1'.size
  have hz1_0 : w.heap.size < w1.heap.size := by have := hb1.size; (try simp at this); omega
  have hz1_1 : w.heap.size + 1 < w1.heap.size := by have := hb1.size; (try simp at this); omega
  have hz1_2 : w.heap.size + 1 + 1 < w1.heap.size := by have := hb1.size; (try simp at this); omega
  obtain ⟨hc1, hf1⟩ := bcell hb1
  go_wp2_with fail
  refine bodyPost_ret (v := .agg #[.int .i64 W, .int .u64 (LO ((n + m) % 2 ^ W)), .int .u64 (HI ((n + m) % 2 ^ W))]) (by simp [results, Try.results74, go_sem, *]) rfl ?_
  exact ⟨rfl, by go_grown⟩

set_option maxHeartbeats 400000 in
theorem arith_mul {W n m : Nat} {WW lo hi WW' lo' hi' : Int} (hw : Wd WW lo hi W n) (hw' : Wd WW' lo' hi' W m) (w : World) :
    Calls Try.prog 74 #[.int .i64 20, .agg #[.int .i64 WW, .int .u64 lo, .int .u64 hi], .agg #[.int .i64 WW', .int .u64 lo', .int .u64 hi']] w fun e w' => e = .returned (.agg #[.int .i64 W, .int .u64 (LO (n * m % 2 ^ W)), .int .u64 (HI (n * m % 2 ^ W))]) ∧ Below w.heap.size w w' := by
  obtain ⟨h1, h2, hn, rfl, rfl, rfl⟩ := hw
  obtain ⟨-, -, hn', rfl, rfl, rfl⟩ := hw'
  go_enter Try.func74, Try.ntmps74
  go_wp2_with fail
  refine (multiply_any (Wd.mk' h1 h2 hn) (Wd.mk' h1 h2 hn') _).mono ?_
  rintro e w1 ⟨rfl, hb1⟩
  have hb1' := below_step (w := w) (by go_grown) hb1
  have hs1 := hb1'.size
  have hz1_0 : w.heap.size < w1.heap.size := by have := hb1.size; (try simp at this); omega
  have hz1_1 : w.heap.size + 1 < w1.heap.size := by have := hb1.size; (try simp at this); omega
  have hz1_2 : w.heap.size + 1 + 1 < w1.heap.size := by have := hb1.size; (try simp at this); omega
  obtain ⟨hc1, hf1⟩ := bcell hb1
  go_wp2_with fail
  refine bodyPost_ret (v := .agg #[.int .i64 W, .int .u64 (LO (n * m % 2 ^ W)), .int .u64 (HI (n * m % 2 ^ W))]) (by simp [results, Try.results74, go_sem, *]) rfl ?_
  exact ⟨rfl, by go_grown⟩

set_option maxHeartbeats 400000 in
theorem leastSigned_any {W : Nat} {WW : Int} (h1 : 1 ≤ W) (h2 : W ≤ 128) (hw : WW = W) (w : World) :
    Calls Try.prog 94 #[.int .i64 WW] w fun e w' => e = .returned (.agg #[.int .i64 W, .int .u64 (LO (2 ^ (W - 1))), .int .u64 (HI (2 ^ (W - 1)))]) ∧ Below w.heap.size w w' := by
  subst hw
  have HT : Hid _ := top_mod h1
  go_enter Try.func94, Try.ntmps94
  go_wp2_with fail
  refine (cut_any (m := 1) (r := 1) h1 h2 (by decide) (one_mod h1) rfl lo1 hi1 _).mono ?_
  rintro e w1 ⟨rfl, hb1⟩
  have hb1' := below_step (w := w) (by go_grown) hb1
  have hs1 := hb1'.size
  have hz1_0 : w.heap.size < w1.heap.size := by have := hb1.size; (try simp at this); omega
  obtain ⟨hc1, hf1⟩ := bcell hb1
  go_wp2_with fail
  refine (moveUp_any (k := W - 1) (Wd.mk' h1 h2 (Nat.one_lt_two_pow (by omega))) (by omega) (by omega) _).mono ?_
  rintro e w2 ⟨rfl, hb2⟩
  have hb2' := below_step (w := w) (by go_grown) hb2
  have hs2 := hb2'.size
  have hz2_0 : w.heap.size < w2.heap.size := by have := hb2.size; (try simp at this); omega
  obtain ⟨hc2, hf2⟩ := bcell hb2
  rw [HT.out]
  go_wp2_with fail
  refine bodyPost_ret (v := .agg #[.int .i64 W, .int .u64 (LO (2 ^ (W - 1))), .int .u64 (HI (2 ^ (W - 1)))]) (by simp [results, Try.results94, go_sem, *]) rfl ?_
  exact ⟨rfl, by go_grown⟩

set_option maxHeartbeats 400000 in
theorem turnHighest_any {W n : Nat} {WW lo hi : Int} (hw : Wd WW lo hi W n) (w : World) :
    Calls Try.prog 89 #[.agg #[.int .i64 WW, .int .u64 lo, .int .u64 hi]] w fun e w' => e = .returned (.agg #[.int .i64 W, .int .u64 (LO (top W n)), .int .u64 (HI (top W n))]) ∧ Below w.heap.size w w' := by
  obtain ⟨h1, h2, hn, rfl, rfl, rfl⟩ := hw
  go_enter Try.func89, Try.ntmps89
  go_wp2_with fail
  go_region_held3 (fun x => x.cell? ⟨w.heap.size, 0, none⟩ = some (.int .i64 W) ∧ x.cell? ⟨w.heap.size, 1, none⟩ = some (.int .u64 (LO (n))) ∧ x.cell? ⟨w.heap.size, 2, none⟩ = some (.int .u64 (HI (n))) ∧ x.cell? ⟨w.heap.size + 1, 0, none⟩ = some (cv x ⟨w.heap.size + 1, 0, none⟩) ∧ x.cell? ⟨w.heap.size + 1, 1, none⟩ = some (cv x ⟨w.heap.size + 1, 1, none⟩) ∧ x.cell? ⟨w.heap.size + 1, 2, none⟩ = some (cv x ⟨w.heap.size + 1, 2, none⟩) ∧ (∀ o, x.frozen? ⟨w.heap.size + 1, o, none⟩ = false) ∧ Below w.heap.size w x)
    ((first | (obtain ⟨q0, q1, q2, q3, q4, q5, q6, q7⟩ := ‹_ ∧ _ ∧ _ ∧ _ ∧ _ ∧ _ ∧ _ ∧ _›; with_reducible exact ⟨keep_cell hb q0, keep_cell hb q1, keep_cell hb q2, cv_of (keep_cell hb q3), cv_of (keep_cell hb q4), cv_of (keep_cell hb q5), keep_frozen hb q3 q6, below_step q7 hb⟩) | (obtain ⟨q0, q1, q2, q3, q4, q5, q6, q7⟩ := ‹_ ∧ _ ∧ _ ∧ _ ∧ _ ∧ _ ∧ _ ∧ _›; with_reducible exact ⟨put_cell (by omega) q0, put_cell (by omega) q1, put_cell (by omega) q2, put_own0 q3, put_own1 q4, put_own2 q5, put_frozen q6, put_below q7 (by omega)⟩) | (refine ⟨?_, ?_, ?_, ?_, ?_, ?_, ?_, ?_⟩ <;> first | (simp [go_sem]; done) | (refine cv_some ?_; simp [go_sem]; done) | go_grown)))
    ((first | (go_at_call 94; refine (leastSigned_any h1 h2 rfl _).mono ?_; rintro e w1 ⟨rfl, hb⟩) | (go_at_call 72; refine (bitwise_xor (Wd.mk' h1 h2 hn) (Wd.mk' h1 h2 (two_pow_pred h1)) _).mono ?_; rintro e w1 ⟨rfl, hb⟩)))
  obtain ⟨hq1_0, hq1_1, hq1_2, hR3, hR4, hR5, -, hBq1⟩ := ‹_ ∧ _ ∧ _ ∧ _ ∧ _ ∧ _ ∧ _ ∧ _›
  have HR3 : Hid _ := hR3
  clear hR3
  have HR4 : Hid _ := hR4
  clear hR4
  have HR5 : Hid _ := hR5
  clear hR5
  go_wp2_with fail
  refine bodyPost_ret (ret_bits rfl rfl (got0 HR3.out) (got1 HR4.out) (got2 HR5.out)) rfl ?_
  exact ⟨rfl, by go_grown⟩

end Go.Proofs.Ytnflphhckgeneaa
