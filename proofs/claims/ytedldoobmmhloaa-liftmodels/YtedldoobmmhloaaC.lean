import Derived.Test.YtedldoobmmhloaaMg6
namespace Go.Proofs.Ytedldoobmmhloaa
set_option maxHeartbeats 12800000
set_option maxRecDepth 100000
open Go.RowKit
set_option linter.unusedSimpArgs false
set_option linter.unusedVariables false
theorem bitwise_and {W n m : Nat} {WW lo hi WW' lo' hi' : Int} (hw : Wd WW lo hi W n) (hw' : Wd WW' lo' hi' W m) (w : World) :
  Calls Try.prog 86 #[.int .i64 12, .agg #[.int .i64 WW, .int .u64 lo, .int .u64 hi], .agg #[.int .i64 WW', .int .u64 lo', .int .u64 hi']] w fun e w' => e = .returned (.agg #[.int .i64 W, .int .u64 (LO (n &&& m)), .int .u64 (HI (n &&& m))]) ∧ Below w.heap.size w w' := by
 have hbig := hw.big
 have hbig' := hw'.big
 obtain ⟨h1, h2, hn, rfl, rfl, rfl⟩ := hw
 obtain ⟨-, -, hn', rfl, rfl, rfl⟩ := hw'
 have hlt : n &&& m < 2 ^ W := Nat.and_lt_two_pow _ hn'
 go_enter Try.func86, Try.ntmps86
 go_wp2_with fail
 refine (cut_any (m := n &&& m) (r := n &&& m) h1 h2 (Nat.lt_of_lt_of_le hlt (pow_le_128 h2)) (Nat.mod_eq_of_lt hlt) rfl (lo_and n m) (hi_and hbig hbig') _).mono ?_
 rintro e w1 ⟨rfl, hb1⟩
 have hb1' := below_step (w := w) (by go_grown) hb1
 have hs1 := hb1'.size
 have hz1_0 : w.heap.size < w1.heap.size := by have := hb1.size; (try simp at this); omega
 have hz1_1 : w.heap.size + 1 < w1.heap.size := by have := hb1.size; (try simp at this); omega
 have hz1_2 : w.heap.size + 1 + 1 < w1.heap.size := by have := hb1.size; (try simp at this); omega
 have hz1_3 : w.heap.size + 1 + 1 + 1 < w1.heap.size := by have := hb1.size; (try simp at this); omega
 obtain ⟨hc1, hf1⟩ := bcell hb1
 go_wp2_with fail
 refine bodyPost_ret (v := .agg #[.int .i64 W, .int .u64 (LO (n &&& m)), .int .u64 (HI (n &&& m))]) (by simp [results, Try.results86, go_sem, *]) rfl ?_
 exact ⟨rfl, by go_grown⟩
theorem bitwise_nand {W n m : Nat} {WW lo hi WW' lo' hi' : Int} (hw : Wd WW lo hi W n) (hw' : Wd WW' lo' hi' W m) (w : World) :
  Calls Try.prog 86 #[.int .i64 15, .agg #[.int .i64 WW, .int .u64 lo, .int .u64 hi], .agg #[.int .i64 WW', .int .u64 lo', .int .u64 hi']] w fun e w' => e = .returned (.agg #[.int .i64 W, .int .u64 (LO (2 ^ W - 1 - (n &&& m))), .int .u64 (HI (2 ^ W - 1 - (n &&& m)))]) ∧ Below w.heap.size w w' := by
 have hbig := hw.big
 have hbig' := hw'.big
 obtain ⟨h1, h2, hn, rfl, rfl, rfl⟩ := hw
 obtain ⟨-, -, hn', rfl, rfl, rfl⟩ := hw'
 have hlt : n &&& m < 2 ^ W := Nat.and_lt_two_pow _ hn'
 go_enter Try.func86, Try.ntmps86
 go_wp2_with fail
 refine (cut_any (m := n &&& m) (r := n &&& m) h1 h2 (Nat.lt_of_lt_of_le hlt (pow_le_128 h2)) (Nat.mod_eq_of_lt hlt) rfl (lo_and n m) (hi_and hbig hbig') _).mono ?_
 rintro e w1 ⟨rfl, hb1⟩
 have hb1' := below_step (w := w) (by go_grown) hb1
 have hs1 := hb1'.size
 have hz1_0 : w.heap.size < w1.heap.size := by have := hb1.size; (try simp at this); omega
 have hz1_1 : w.heap.size + 1 < w1.heap.size := by have := hb1.size; (try simp at this); omega
 have hz1_2 : w.heap.size + 1 + 1 < w1.heap.size := by have := hb1.size; (try simp at this); omega
 have hz1_3 : w.heap.size + 1 + 1 + 1 < w1.heap.size := by have := hb1.size; (try simp at this); omega
 obtain ⟨hc1, hf1⟩ := bcell hb1
 go_wp2_with fail
 refine (turn_any (Wd.mk' h1 h2 hlt) _).mono ?_
 rintro e w2 ⟨rfl, hb2⟩
 have hb2' := below_step (w := w) (by go_grown) hb2
 have hs2 := hb2'.size
 have hz2_0 : w.heap.size < w2.heap.size := by have := hb2.size; (try simp at this); omega
 have hz2_1 : w.heap.size + 1 < w2.heap.size := by have := hb2.size; (try simp at this); omega
 have hz2_2 : w.heap.size + 1 + 1 < w2.heap.size := by have := hb2.size; (try simp at this); omega
 have hz2_3 : w.heap.size + 1 + 1 + 1 < w2.heap.size := by have := hb2.size; (try simp at this); omega
 obtain ⟨hc2, hf2⟩ := bcell hb2
 go_wp2_with fail
 refine bodyPost_ret (v := .agg #[.int .i64 W, .int .u64 (LO (2 ^ W - 1 - (n &&& m))), .int .u64 (HI (2 ^ W - 1 - (n &&& m)))]) (by simp [results, Try.results86, go_sem, *]) rfl ?_
 exact ⟨rfl, by go_grown⟩
theorem bitwise_or {W n m : Nat} {WW lo hi WW' lo' hi' : Int} (hw : Wd WW lo hi W n) (hw' : Wd WW' lo' hi' W m) (w : World) :
  Calls Try.prog 86 #[.int .i64 13, .agg #[.int .i64 WW, .int .u64 lo, .int .u64 hi], .agg #[.int .i64 WW', .int .u64 lo', .int .u64 hi']] w fun e w' => e = .returned (.agg #[.int .i64 W, .int .u64 (LO (n ||| m)), .int .u64 (HI (n ||| m))]) ∧ Below w.heap.size w w' := by
 have hbig := hw.big
 have hbig' := hw'.big
 obtain ⟨h1, h2, hn, rfl, rfl, rfl⟩ := hw
 obtain ⟨-, -, hn', rfl, rfl, rfl⟩ := hw'
 have hlt : n ||| m < 2 ^ W := Nat.or_lt_two_pow hn hn'
 go_enter Try.func86, Try.ntmps86
 go_wp2_with fail
 refine (cut_any (m := n ||| m) (r := n ||| m) h1 h2 (Nat.lt_of_lt_of_le hlt (pow_le_128 h2)) (Nat.mod_eq_of_lt hlt) rfl (lo_or n m) (hi_or hbig hbig') _).mono ?_
 rintro e w1 ⟨rfl, hb1⟩
 have hb1' := below_step (w := w) (by go_grown) hb1
 have hs1 := hb1'.size
 have hz1_0 : w.heap.size < w1.heap.size := by have := hb1.size; (try simp at this); omega
 have hz1_1 : w.heap.size + 1 < w1.heap.size := by have := hb1.size; (try simp at this); omega
 have hz1_2 : w.heap.size + 1 + 1 < w1.heap.size := by have := hb1.size; (try simp at this); omega
 have hz1_3 : w.heap.size + 1 + 1 + 1 < w1.heap.size := by have := hb1.size; (try simp at this); omega
 obtain ⟨hc1, hf1⟩ := bcell hb1
 go_wp2_with fail
 refine bodyPost_ret (v := .agg #[.int .i64 W, .int .u64 (LO (n ||| m)), .int .u64 (HI (n ||| m))]) (by simp [results, Try.results86, go_sem, *]) rfl ?_
 exact ⟨rfl, by go_grown⟩
theorem bitwise_nor {W n m : Nat} {WW lo hi WW' lo' hi' : Int} (hw : Wd WW lo hi W n) (hw' : Wd WW' lo' hi' W m) (w : World) :
  Calls Try.prog 86 #[.int .i64 16, .agg #[.int .i64 WW, .int .u64 lo, .int .u64 hi], .agg #[.int .i64 WW', .int .u64 lo', .int .u64 hi']] w fun e w' => e = .returned (.agg #[.int .i64 W, .int .u64 (LO (2 ^ W - 1 - (n ||| m))), .int .u64 (HI (2 ^ W - 1 - (n ||| m)))]) ∧ Below w.heap.size w w' := by
 have hbig := hw.big
 have hbig' := hw'.big
 obtain ⟨h1, h2, hn, rfl, rfl, rfl⟩ := hw
 obtain ⟨-, -, hn', rfl, rfl, rfl⟩ := hw'
 have hlt : n ||| m < 2 ^ W := Nat.or_lt_two_pow hn hn'
 go_enter Try.func86, Try.ntmps86
 go_wp2_with fail
 refine (cut_any (m := n ||| m) (r := n ||| m) h1 h2 (Nat.lt_of_lt_of_le hlt (pow_le_128 h2)) (Nat.mod_eq_of_lt hlt) rfl (lo_or n m) (hi_or hbig hbig') _).mono ?_
 rintro e w1 ⟨rfl, hb1⟩
 have hb1' := below_step (w := w) (by go_grown) hb1
 have hs1 := hb1'.size
 have hz1_0 : w.heap.size < w1.heap.size := by have := hb1.size; (try simp at this); omega
 have hz1_1 : w.heap.size + 1 < w1.heap.size := by have := hb1.size; (try simp at this); omega
 have hz1_2 : w.heap.size + 1 + 1 < w1.heap.size := by have := hb1.size; (try simp at this); omega
 have hz1_3 : w.heap.size + 1 + 1 + 1 < w1.heap.size := by have := hb1.size; (try simp at this); omega
 obtain ⟨hc1, hf1⟩ := bcell hb1
 go_wp2_with fail
 refine (turn_any (Wd.mk' h1 h2 hlt) _).mono ?_
 rintro e w2 ⟨rfl, hb2⟩
 have hb2' := below_step (w := w) (by go_grown) hb2
 have hs2 := hb2'.size
 have hz2_0 : w.heap.size < w2.heap.size := by have := hb2.size; (try simp at this); omega
 have hz2_1 : w.heap.size + 1 < w2.heap.size := by have := hb2.size; (try simp at this); omega
 have hz2_2 : w.heap.size + 1 + 1 < w2.heap.size := by have := hb2.size; (try simp at this); omega
 have hz2_3 : w.heap.size + 1 + 1 + 1 < w2.heap.size := by have := hb2.size; (try simp at this); omega
 obtain ⟨hc2, hf2⟩ := bcell hb2
 go_wp2_with fail
 refine bodyPost_ret (v := .agg #[.int .i64 W, .int .u64 (LO (2 ^ W - 1 - (n ||| m))), .int .u64 (HI (2 ^ W - 1 - (n ||| m)))]) (by simp [results, Try.results86, go_sem, *]) rfl ?_
 exact ⟨rfl, by go_grown⟩
theorem bitwise_xor {W n m : Nat} {WW lo hi WW' lo' hi' : Int} (hw : Wd WW lo hi W n) (hw' : Wd WW' lo' hi' W m) (w : World) :
  Calls Try.prog 86 #[.int .i64 14, .agg #[.int .i64 WW, .int .u64 lo, .int .u64 hi], .agg #[.int .i64 WW', .int .u64 lo', .int .u64 hi']] w fun e w' => e = .returned (.agg #[.int .i64 W, .int .u64 (LO (n ^^^ m)), .int .u64 (HI (n ^^^ m))]) ∧ Below w.heap.size w w' := by
 have hbig := hw.big
 have hbig' := hw'.big
 obtain ⟨h1, h2, hn, rfl, rfl, rfl⟩ := hw
 obtain ⟨-, -, hn', rfl, rfl, rfl⟩ := hw'
 have hlt : n ^^^ m < 2 ^ W := Nat.xor_lt_two_pow hn hn'
 go_enter Try.func86, Try.ntmps86
 go_wp2_with fail
 refine (cut_any (m := n ^^^ m) (r := n ^^^ m) h1 h2 (Nat.lt_of_lt_of_le hlt (pow_le_128 h2)) (Nat.mod_eq_of_lt hlt) rfl (lo_xor n m) (hi_xor hbig hbig') _).mono ?_
 rintro e w1 ⟨rfl, hb1⟩
 have hb1' := below_step (w := w) (by go_grown) hb1
 have hs1 := hb1'.size
 have hz1_0 : w.heap.size < w1.heap.size := by have := hb1.size; (try simp at this); omega
 have hz1_1 : w.heap.size + 1 < w1.heap.size := by have := hb1.size; (try simp at this); omega
 have hz1_2 : w.heap.size + 1 + 1 < w1.heap.size := by have := hb1.size; (try simp at this); omega
 have hz1_3 : w.heap.size + 1 + 1 + 1 < w1.heap.size := by have := hb1.size; (try simp at this); omega
 obtain ⟨hc1, hf1⟩ := bcell hb1
 go_wp2_with fail
 refine bodyPost_ret (v := .agg #[.int .i64 W, .int .u64 (LO (n ^^^ m)), .int .u64 (HI (n ^^^ m))]) (by simp [results, Try.results86, go_sem, *]) rfl ?_
 exact ⟨rfl, by go_grown⟩
theorem bitwise_nxor {W n m : Nat} {WW lo hi WW' lo' hi' : Int} (hw : Wd WW lo hi W n) (hw' : Wd WW' lo' hi' W m) (w : World) :
  Calls Try.prog 86 #[.int .i64 17, .agg #[.int .i64 WW, .int .u64 lo, .int .u64 hi], .agg #[.int .i64 WW', .int .u64 lo', .int .u64 hi']] w fun e w' => e = .returned (.agg #[.int .i64 W, .int .u64 (LO (2 ^ W - 1 - (n ^^^ m))), .int .u64 (HI (2 ^ W - 1 - (n ^^^ m)))]) ∧ Below w.heap.size w w' := by
 have hbig := hw.big
 have hbig' := hw'.big
 obtain ⟨h1, h2, hn, rfl, rfl, rfl⟩ := hw
 obtain ⟨-, -, hn', rfl, rfl, rfl⟩ := hw'
 have hlt : n ^^^ m < 2 ^ W := Nat.xor_lt_two_pow hn hn'
 go_enter Try.func86, Try.ntmps86
 go_wp2_with fail
 refine (cut_any (m := n ^^^ m) (r := n ^^^ m) h1 h2 (Nat.lt_of_lt_of_le hlt (pow_le_128 h2)) (Nat.mod_eq_of_lt hlt) rfl (lo_xor n m) (hi_xor hbig hbig') _).mono ?_
 rintro e w1 ⟨rfl, hb1⟩
 have hb1' := below_step (w := w) (by go_grown) hb1
 have hs1 := hb1'.size
 have hz1_0 : w.heap.size < w1.heap.size := by have := hb1.size; (try simp at this); omega
 have hz1_1 : w.heap.size + 1 < w1.heap.size := by have := hb1.size; (try simp at this); omega
 have hz1_2 : w.heap.size + 1 + 1 < w1.heap.size := by have := hb1.size; (try simp at this); omega
 have hz1_3 : w.heap.size + 1 + 1 + 1 < w1.heap.size := by have := hb1.size; (try simp at this); omega
 obtain ⟨hc1, hf1⟩ := bcell hb1
 go_wp2_with fail
 refine (turn_any (Wd.mk' h1 h2 hlt) _).mono ?_
 rintro e w2 ⟨rfl, hb2⟩
 have hb2' := below_step (w := w) (by go_grown) hb2
 have hs2 := hb2'.size
 have hz2_0 : w.heap.size < w2.heap.size := by have := hb2.size; (try simp at this); omega
 have hz2_1 : w.heap.size + 1 < w2.heap.size := by have := hb2.size; (try simp at this); omega
 have hz2_2 : w.heap.size + 1 + 1 < w2.heap.size := by have := hb2.size; (try simp at this); omega
 have hz2_3 : w.heap.size + 1 + 1 + 1 < w2.heap.size := by have := hb2.size; (try simp at this); omega
 obtain ⟨hc2, hf2⟩ := bcell hb2
 go_wp2_with fail
 refine bodyPost_ret (v := .agg #[.int .i64 W, .int .u64 (LO (2 ^ W - 1 - (n ^^^ m))), .int .u64 (HI (2 ^ W - 1 - (n ^^^ m)))]) (by simp [results, Try.results86, go_sem, *]) rfl ?_
 exact ⟨rfl, by go_grown⟩
theorem arith_add {W n m : Nat} {WW lo hi WW' lo' hi' : Int} (hw : Wd WW lo hi W n) (hw' : Wd WW' lo' hi' W m) (w : World) :
  Calls Try.prog 88 #[.int .i64 18, .agg #[.int .i64 WW, .int .u64 lo, .int .u64 hi], .agg #[.int .i64 WW', .int .u64 lo', .int .u64 hi']] w fun e w' => e = .returned (.agg #[.int .i64 W, .int .u64 (LO ((n + m) % 2 ^ W)), .int .u64 (HI ((n + m) % 2 ^ W))]) ∧ Below w.heap.size w w' := by
 obtain ⟨h1, h2, hn, rfl, rfl, rfl⟩ := hw
 obtain ⟨-, -, hn', rfl, rfl, rfl⟩ := hw'
 go_enter Try.func88, Try.ntmps88
 go_wp2_with fail
 refine (add_any (Wd.mk' h1 h2 hn) (Wd.mk' h1 h2 hn') _).mono ?_
 rintro e w1 ⟨rfl, hb1⟩
 have hb1' := below_step (w := w) (by go_grown) hb1
 have hs1 := hb1'.size
 have hz1_0 : w.heap.size < w1.heap.size := by have := hb1.size; (try simp at this); omega
 have hz1_1 : w.heap.size + 1 < w1.heap.size := by have := hb1.size; (try simp at this); omega
 have hz1_2 : w.heap.size + 1 + 1 < w1.heap.size := by have := hb1.size; (try simp at this); omega
 obtain ⟨hc1, hf1⟩ := bcell hb1
 go_wp2_with fail
 refine bodyPost_ret (v := .agg #[.int .i64 W, .int .u64 (LO ((n + m) % 2 ^ W)), .int .u64 (HI ((n + m) % 2 ^ W))]) (by simp [results, Try.results88, go_sem, *]) rfl ?_
 exact ⟨rfl, by go_grown⟩
theorem arith_sub {W n m : Nat} {WW lo hi WW' lo' hi' : Int} (hw : Wd WW lo hi W n) (hw' : Wd WW' lo' hi' W m) (w : World) :
  Calls Try.prog 88 #[.int .i64 19, .agg #[.int .i64 WW, .int .u64 lo, .int .u64 hi], .agg #[.int .i64 WW', .int .u64 lo', .int .u64 hi']] w fun e w' => e = .returned (.agg #[.int .i64 W, .int .u64 (LO ((n + neg W m) % 2 ^ W)), .int .u64 (HI ((n + neg W m) % 2 ^ W))]) ∧ Below w.heap.size w w' := by
 obtain ⟨h1, h2, hn, rfl, rfl, rfl⟩ := hw
 obtain ⟨-, -, hn', rfl, rfl, rfl⟩ := hw'
 go_enter Try.func88, Try.ntmps88
 go_wp2_with fail
 refine (negate_any (Wd.mk' h1 h2 hn') _).mono ?_
 rintro e w1 ⟨rfl, hb1⟩
 have hb1' := below_step (w := w) (by go_grown) hb1
 have hs1 := hb1'.size
 have hz1_0 : w.heap.size < w1.heap.size := by have := hb1.size; (try simp at this); omega
 have hz1_1 : w.heap.size + 1 < w1.heap.size := by have := hb1.size; (try simp at this); omega
 have hz1_2 : w.heap.size + 1 + 1 < w1.heap.size := by have := hb1.size; (try simp at this); omega
 obtain ⟨hc1, hf1⟩ := bcell hb1
 go_wp2_with fail
 refine (add_any (Wd.mk' h1 h2 hn) (Wd.mk' h1 h2 (neg_lt W m)) _).mono ?_
 rintro e w2 ⟨rfl, hb2⟩
 have hb2' := below_step (w := w) (by go_grown) hb2
 have hs2 := hb2'.size
 have hz2_0 : w.heap.size < w2.heap.size := by have := hb2.size; (try simp at this); omega
 have hz2_1 : w.heap.size + 1 < w2.heap.size := by have := hb2.size; (try simp at this); omega
 have hz2_2 : w.heap.size + 1 + 1 < w2.heap.size := by have := hb2.size; (try simp at this); omega
 obtain ⟨hc2, hf2⟩ := bcell hb2
 go_wp2_with fail
 refine bodyPost_ret (v := .agg #[.int .i64 W, .int .u64 (LO ((n + neg W m) % 2 ^ W)), .int .u64 (HI ((n + neg W m) % 2 ^ W))]) (by simp [results, Try.results88, go_sem, *]) rfl ?_
 exact ⟨rfl, by go_grown⟩
theorem arith_mul {W n m : Nat} {WW lo hi WW' lo' hi' : Int} (hw : Wd WW lo hi W n) (hw' : Wd WW' lo' hi' W m) (w : World) :
  Calls Try.prog 88 #[.int .i64 20, .agg #[.int .i64 WW, .int .u64 lo, .int .u64 hi], .agg #[.int .i64 WW', .int .u64 lo', .int .u64 hi']] w fun e w' => e = .returned (.agg #[.int .i64 W, .int .u64 (LO (n * m % 2 ^ W)), .int .u64 (HI (n * m % 2 ^ W))]) ∧ Below w.heap.size w w' := by
 obtain ⟨h1, h2, hn, rfl, rfl, rfl⟩ := hw
 obtain ⟨-, -, hn', rfl, rfl, rfl⟩ := hw'
 go_enter Try.func88, Try.ntmps88
 go_wp2_with fail
 refine (multiply_any (Wd.mk' h1 h2 hn) (Wd.mk' h1 h2 hn') _).mono ?_
 rintro e w1 ⟨rfl, hb1⟩
 have hb1' := below_step (w := w) (by go_grown) hb1
 have hs1 := hb1'.size
 have hz1_0 : w.heap.size < w1.heap.size := by have := hb1.size; (try simp at this); omega
 have hz1_1 : w.heap.size + 1 < w1.heap.size := by have := hb1.size; (try simp at this); omega
 have hz1_2 : w.heap.size + 1 + 1 < w1.heap.size := by have := hb1.size; (try simp at this); omega
 obtain ⟨hc1, hf1⟩ := bcell hb1
 go_wp2_with fail
 refine bodyPost_ret (v := .agg #[.int .i64 W, .int .u64 (LO (n * m % 2 ^ W)), .int .u64 (HI (n * m % 2 ^ W))]) (by simp [results, Try.results88, go_sem, *]) rfl ?_
 exact ⟨rfl, by go_grown⟩
theorem withSignOf_any {W n m : Nat} {WW lo hi WW' lo' hi' : Int} (hw : Wd WW lo hi W n) (hw' : Wd WW' lo' hi' W m) (w : World) :
  Calls Try.prog 99 #[.agg #[.int .i64 WW, .int .u64 lo, .int .u64 hi], .agg #[.int .i64 WW', .int .u64 lo', .int .u64 hi']] w fun e w' => e = .returned (.agg #[.int .i64 W, .int .u64 (LO (wsign W n m)), .int .u64 (HI (wsign W n m))]) ∧ Below w.heap.size w w' := by
 obtain ⟨h1, h2, hn, rfl, rfl, rfl⟩ := hw
 obtain ⟨-, -, hn', rfl, rfl, rfl⟩ := hw'
 cases hs : n.testBit (W - 1)
 ·have e : wsign W n m = m := by simp [wsign, hs]
  rw [e]
  clear e
  go_enter Try.func99, Try.ntmps99
  go_wp2_with fail
  refine (isBelowZero_any (Wd.mk' h1 h2 hn) _).mono ?_
  rintro e w1 ⟨rfl, hb1⟩
  have hb1' := below_step (w := w) (by go_grown) hb1
  have hs1 := hb1'.size
  have hz1_0 : w.heap.size < w1.heap.size := by have := hb1.size; (try simp at this); omega
  have hz1_1 : w.heap.size + 1 < w1.heap.size := by have := hb1.size; (try simp at this); omega
  have hz1_2 : w.heap.size + 1 + 1 < w1.heap.size := by have := hb1.size; (try simp at this); omega
  obtain ⟨hc1, hf1⟩ := bcell hb1
  go_wp2_with fail
  refine bodyPost_ret (v := .agg #[.int .i64 W, .int .u64 (LO (m)), .int .u64 (HI (m))]) (by simp [results, Try.results99, go_sem, *]) rfl ?_
  exact ⟨rfl, by go_grown⟩
 ·have e : wsign W n m = neg W m := by simp [wsign, hs]
  rw [e]
  clear e
  go_enter Try.func99, Try.ntmps99
  go_wp2_with fail
  refine (isBelowZero_any (Wd.mk' h1 h2 hn) _).mono ?_
  rintro e w1 ⟨rfl, hb1⟩
  have hb1' := below_step (w := w) (by go_grown) hb1
  have hs1 := hb1'.size
  have hz1_0 : w.heap.size < w1.heap.size := by have := hb1.size; (try simp at this); omega
  have hz1_1 : w.heap.size + 1 < w1.heap.size := by have := hb1.size; (try simp at this); omega
  have hz1_2 : w.heap.size + 1 + 1 < w1.heap.size := by have := hb1.size; (try simp at this); omega
  obtain ⟨hc1, hf1⟩ := bcell hb1
  go_wp2_with fail
  refine (negate_any (Wd.mk' h1 h2 hn') _).mono ?_
  rintro e w2 ⟨rfl, hb2⟩
  have hb2' := below_step (w := w) (by go_grown) hb2
  have hs2 := hb2'.size
  have hz2_0 : w.heap.size < w2.heap.size := by have := hb2.size; (try simp at this); omega
  have hz2_1 : w.heap.size + 1 < w2.heap.size := by have := hb2.size; (try simp at this); omega
  have hz2_2 : w.heap.size + 1 + 1 < w2.heap.size := by have := hb2.size; (try simp at this); omega
  obtain ⟨hc2, hf2⟩ := bcell hb2
  go_wp2_with fail
  refine bodyPost_ret (v := .agg #[.int .i64 W, .int .u64 (LO (neg W m)), .int .u64 (HI (neg W m))]) (by simp [results, Try.results99, go_sem, *]) rfl ?_
  exact ⟨rfl, by go_grown⟩
theorem size_any {W n : Nat} {WW lo hi : Int} (hw : Wd WW lo hi W n) (w : World) :
  Calls Try.prog 98 #[.agg #[.int .i64 WW, .int .u64 lo, .int .u64 hi]] w fun e w' => e = .returned (.agg #[.int .i64 W, .int .u64 (LO (wsign W n n)), .int .u64 (HI (wsign W n n))]) ∧ Below w.heap.size w w' := by
 obtain ⟨h1, h2, hn, rfl, rfl, rfl⟩ := hw
 go_enter Try.func98, Try.ntmps98
 go_wp2_with fail
 refine (withSignOf_any (Wd.mk' h1 h2 hn) (Wd.mk' h1 h2 hn) _).mono ?_
 rintro e w1 ⟨rfl, hb1⟩
 have hb1' := below_step (w := w) (by go_grown) hb1
 have hs1 := hb1'.size
 have hz1_0 : w.heap.size < w1.heap.size := by have := hb1.size; (try simp at this); omega
 have hz1_1 : w.heap.size + 1 < w1.heap.size := by have := hb1.size; (try simp at this); omega
 obtain ⟨hc1, hf1⟩ := bcell hb1
 go_wp2_with fail
 refine bodyPost_ret (v := .agg #[.int .i64 W, .int .u64 (LO (wsign W n n)), .int .u64 (HI (wsign W n n))]) (by simp [results, Try.results98, go_sem, *]) rfl ?_
 exact ⟨rfl, by go_grown⟩
theorem leastSigned_any {W : Nat} {WW : Int} (h1 : 1 ≤ W) (h2 : W ≤ 128) (hw : WW = W) (w : World) :
  Calls Try.prog 106 #[.int .i64 WW] w fun e w' => e = .returned (.agg #[.int .i64 W, .int .u64 (LO (2 ^ (W - 1))), .int .u64 (HI (2 ^ (W - 1)))]) ∧ Below w.heap.size w w' := by
 subst hw
 have HT : Hid _ := top_mod h1
 go_enter Try.func106, Try.ntmps106
 go_wp2_with fail
 refine (cut_any (m := 1) (r := 1) h1 h2 (by decide) (one_mod h1) rfl lo1 hi1 _).mono ?_
 rintro e w1 ⟨rfl, hb1⟩
 have hb1' := below_step (w := w) (by go_grown) hb1
 have hs1 := hb1'.size
 have hz1_0 : w.heap.size < w1.heap.size := by have := hb1.size; (try simp at this); omega
 obtain ⟨hc1, hf1⟩ := bcell hb1
 go_wp2_with fail
 refine (moveUp_any (k := W - 1) (Wd.mk' h1 h2 (Nat.one_lt_two_pow (by omega))) (by omega) (by omega) _).mono ?_
 rintro e w2 ⟨rfl, hb2⟩
 have hb2' := below_step (w := w) (by go_grown) hb2
 have hs2 := hb2'.size
 have hz2_0 : w.heap.size < w2.heap.size := by have := hb2.size; (try simp at this); omega
 obtain ⟨hc2, hf2⟩ := bcell hb2
 rw [HT.out]
 go_wp2_with fail
 refine bodyPost_ret (v := .agg #[.int .i64 W, .int .u64 (LO (2 ^ (W - 1))), .int .u64 (HI (2 ^ (W - 1)))]) (by simp [results, Try.results106, go_sem, *]) rfl ?_
 exact ⟨rfl, by go_grown⟩
theorem turnHighest_any {W n : Nat} {WW lo hi : Int} (hw : Wd WW lo hi W n) (w : World) :
  Calls Try.prog 101 #[.agg #[.int .i64 WW, .int .u64 lo, .int .u64 hi]] w fun e w' => e = .returned (.agg #[.int .i64 W, .int .u64 (LO (top W n)), .int .u64 (HI (top W n))]) ∧ Below w.heap.size w w' := by
 obtain ⟨h1, h2, hn, rfl, rfl, rfl⟩ := hw
 go_enter Try.func101, Try.ntmps101
 go_wp2_with fail
 go_region_held3 (fun x => x.cell? ⟨w.heap.size, 0, none⟩ = some (.int .i64 W) ∧ x.cell? ⟨w.heap.size, 1, none⟩ = some (.int .u64 (LO (n))) ∧ x.cell? ⟨w.heap.size, 2, none⟩ = some (.int .u64 (HI (n))) ∧ x.cell? ⟨w.heap.size + 1, 0, none⟩ = some (cv x ⟨w.heap.size + 1, 0, none⟩) ∧ x.cell? ⟨w.heap.size + 1, 1, none⟩ = some (cv x ⟨w.heap.size + 1, 1, none⟩) ∧ x.cell? ⟨w.heap.size + 1, 2, none⟩ = some (cv x ⟨w.heap.size + 1, 2, none⟩) ∧ (∀ o, x.frozen? ⟨w.heap.size + 1, o, none⟩ = false) ∧ Below w.heap.size w x)
  ((first | (obtain ⟨q0, q1, q2, q3, q4, q5, q6, q7⟩ := ‹_ ∧ _ ∧ _ ∧ _ ∧ _ ∧ _ ∧ _ ∧ _›; with_reducible exact ⟨keep_cell hb q0, keep_cell hb q1, keep_cell hb q2, cv_of (keep_cell hb q3), cv_of (keep_cell hb q4), cv_of (keep_cell hb q5), keep_frozen hb q3 q6, below_step q7 hb⟩) | (obtain ⟨q0, q1, q2, q3, q4, q5, q6, q7⟩ := ‹_ ∧ _ ∧ _ ∧ _ ∧ _ ∧ _ ∧ _ ∧ _›; with_reducible exact ⟨put_cell (by omega) q0, put_cell (by omega) q1, put_cell (by omega) q2, put_own0 q3, put_own1 q4, put_own2 q5, put_frozen q6, put_below q7 (by omega)⟩) | (refine ⟨?_, ?_, ?_, ?_, ?_, ?_, ?_, ?_⟩ <;> first | (simp [go_sem]; done) | (refine cv_some ?_; simp [go_sem]; done) | go_grown)))
  ((first | (go_at_call 106; refine (leastSigned_any h1 h2 rfl _).mono ?_; rintro e w1 ⟨rfl, hb⟩) | (go_at_call 86; refine (bitwise_xor (Wd.mk' h1 h2 hn) (Wd.mk' h1 h2 (two_pow_pred h1)) _).mono ?_; rintro e w1 ⟨rfl, hb⟩)))
 obtain ⟨hq1_0, hq1_1, hq1_2, hR3, hR4, hR5, -, hBq1⟩ := ‹_ ∧ _ ∧ _ ∧ _ ∧ _ ∧ _ ∧ _ ∧ _›
 have HR3 : Hid _ := hR3
 clear hR3
 have HR4 : Hid _ := hR4
 clear hR4
 have HR5 : Hid _ := hR5
 clear hR5
 go_wp2_with fail
 refine bodyPost_ret (ret_bits rfl rfl (got0 HR3.out) (got1 HR4.out) (got2 HR5.out)) rfl ?_
 exact ⟨rfl, by go_grown⟩
theorem distance_any {W n : Nat} {WW lo hi : Int} (hw : Wd WW lo hi W n) (w : World) :
  Calls Try.prog 100 #[.agg #[.int .i64 WW, .int .u64 lo, .int .u64 hi]] w fun e w' => e = .returned (.int .i64 (dist n W)) ∧ Below w.heap.size w w' := by
 obtain ⟨h1, h2, hn, rfl, rfl, rfl⟩ := hw
 by_cases h : HI n = 0
 ·have hq : (HI n != 0) = false := by simp [h]
  by_cases hl : LO n ≤ W
  ·have HD : Hid _ := dist_near hl h
   have hl0 : 0 ≤ LO n := by unfold LO; omega
   clear h
   go_enter Try.func100, Try.ntmps100
   go_wp2_with fail
   go_ret
   exact ⟨ret_int HD.out, by go_grown⟩
  ·have HD : Hid _ := dist_far (Or.inl hl) h2
   have hl0 : (W : Int) < LO n := by omega
   clear h hl
   go_enter Try.func100, Try.ntmps100
   go_wp2_with fail
   go_ret
   exact ⟨ret_int HD.out, by go_grown⟩
 ·have HD : Hid _ := dist_far (Or.inr h) h2
  have hq : (HI n != 0) = true := by simp [h]
  clear h
  go_enter Try.func100, Try.ntmps100
  go_wp2_with fail
  go_ret
  exact ⟨ret_int HD.out, by go_grown⟩
theorem widen_any {W n V m : Nat} {WW lo hi VV : Int} (hw : Wd WW lo hi W n) (hv1 : 1 ≤ V) (hv2 : V ≤ 128) (hv : VV = V) (hm : n % 2 ^ V = m) (w : World) :
  Calls Try.prog 85 #[.agg #[.int .i64 WW, .int .u64 lo, .int .u64 hi], .int .i64 VV] w fun e w' => e = .returned (.agg #[.int .i64 V, .int .u64 (LO (m)), .int .u64 (HI (m))]) ∧ Below w.heap.size w w' := by
 have hbig := hw.big
 obtain ⟨h1, h2, hn, rfl, rfl, rfl⟩ := hw
 subst hv
 go_enter Try.func85, Try.ntmps85
 go_wp2_with fail
 refine (cut_any (m := n) (r := m) hv1 hv2 hbig hm rfl rfl rfl _).mono ?_
 rintro e w1 ⟨rfl, hb1⟩
 have hb1' := below_step (w := w) (by go_grown) hb1
 have hs1 := hb1'.size
 have hz1_0 : w.heap.size < w1.heap.size := by have := hb1.size; (try simp at this); omega
 have hz1_1 : w.heap.size + 1 < w1.heap.size := by have := hb1.size; (try simp at this); omega
 obtain ⟨hc1, hf1⟩ := bcell hb1
 go_wp2_with fail
 refine bodyPost_ret (v := .agg #[.int .i64 V, .int .u64 (LO (m)), .int .u64 (HI (m))]) (by simp [results, Try.results85, go_sem, *]) rfl ?_
 exact ⟨rfl, by go_grown⟩
theorem shift_shl {W n m : Nat} {WW lo hi WW' lo' hi' : Int} (hw : Wd WW lo hi W n) (hw' : Wd WW' lo' hi' W m) (w : World) :
  Calls Try.prog 91 #[.int .i64 26, .agg #[.int .i64 WW, .int .u64 lo, .int .u64 hi], .agg #[.int .i64 WW', .int .u64 lo', .int .u64 hi']] w fun e w' => e = .returned (.agg #[.int .i64 W, .int .u64 (LO (n * 2 ^ dist m W % 2 ^ W)), .int .u64 (HI (n * 2 ^ dist m W % 2 ^ W))]) ∧ Below w.heap.size w w' := by
 obtain ⟨h1, h2, hn, rfl, rfl, rfl⟩ := hw
 obtain ⟨-, -, hn', rfl, rfl, rfl⟩ := hw'
 go_enter Try.func91, Try.ntmps91
 go_wp2_with fail
 refine (distance_any (Wd.mk' h1 h2 hn') _).mono ?_
 rintro e w1 ⟨rfl, hb1⟩
 have hb1' := below_step (w := w) (by go_grown) hb1
 have hs1 := hb1'.size
 have hz1_0 : w.heap.size < w1.heap.size := by have := hb1.size; (try simp at this); omega
 have hz1_1 : w.heap.size + 1 < w1.heap.size := by have := hb1.size; (try simp at this); omega
 have hz1_2 : w.heap.size + 1 + 1 < w1.heap.size := by have := hb1.size; (try simp at this); omega
 obtain ⟨hc1, hf1⟩ := bcell hb1
 go_wp2_with fail
 refine (moveUp_any (Wd.mk' h1 h2 hn) rfl (dist_lt h2) _).mono ?_
 rintro e w2 ⟨rfl, hb2⟩
 have hb2' := below_step (w := w) (by go_grown) hb2
 have hs2 := hb2'.size
 have hz2_0 : w.heap.size < w2.heap.size := by have := hb2.size; (try simp at this); omega
 have hz2_1 : w.heap.size + 1 < w2.heap.size := by have := hb2.size; (try simp at this); omega
 have hz2_2 : w.heap.size + 1 + 1 < w2.heap.size := by have := hb2.size; (try simp at this); omega
 obtain ⟨hc2, hf2⟩ := bcell hb2
 go_wp2_with fail
 refine bodyPost_ret (v := .agg #[.int .i64 W, .int .u64 (LO (n * 2 ^ dist m W % 2 ^ W)), .int .u64 (HI (n * 2 ^ dist m W % 2 ^ W))]) (by simp [results, Try.results91, go_sem, *]) rfl ?_
 exact ⟨rfl, by go_grown⟩
theorem shift_lshr {W n m : Nat} {WW lo hi WW' lo' hi' : Int} (hw : Wd WW lo hi W n) (hw' : Wd WW' lo' hi' W m) (w : World) :
  Calls Try.prog 91 #[.int .i64 27, .agg #[.int .i64 WW, .int .u64 lo, .int .u64 hi], .agg #[.int .i64 WW', .int .u64 lo', .int .u64 hi']] w fun e w' => e = .returned (.agg #[.int .i64 W, .int .u64 (LO (n / 2 ^ dist m W)), .int .u64 (HI (n / 2 ^ dist m W))]) ∧ Below w.heap.size w w' := by
 obtain ⟨h1, h2, hn, rfl, rfl, rfl⟩ := hw
 obtain ⟨-, -, hn', rfl, rfl, rfl⟩ := hw'
 go_enter Try.func91, Try.ntmps91
 go_wp2_with fail
 refine (distance_any (Wd.mk' h1 h2 hn') _).mono ?_
 rintro e w1 ⟨rfl, hb1⟩
 have hb1' := below_step (w := w) (by go_grown) hb1
 have hs1 := hb1'.size
 have hz1_0 : w.heap.size < w1.heap.size := by have := hb1.size; (try simp at this); omega
 have hz1_1 : w.heap.size + 1 < w1.heap.size := by have := hb1.size; (try simp at this); omega
 have hz1_2 : w.heap.size + 1 + 1 < w1.heap.size := by have := hb1.size; (try simp at this); omega
 obtain ⟨hc1, hf1⟩ := bcell hb1
 go_wp2_with fail
 refine (moveDown_any (Wd.mk' h1 h2 hn) rfl (dist_lt h2) _).mono ?_
 rintro e w2 ⟨rfl, hb2⟩
 have hb2' := below_step (w := w) (by go_grown) hb2
 have hs2 := hb2'.size
 have hz2_0 : w.heap.size < w2.heap.size := by have := hb2.size; (try simp at this); omega
 have hz2_1 : w.heap.size + 1 < w2.heap.size := by have := hb2.size; (try simp at this); omega
 have hz2_2 : w.heap.size + 1 + 1 < w2.heap.size := by have := hb2.size; (try simp at this); omega
 obtain ⟨hc2, hf2⟩ := bcell hb2
 go_wp2_with fail
 refine bodyPost_ret (v := .agg #[.int .i64 W, .int .u64 (LO (n / 2 ^ dist m W)), .int .u64 (HI (n / 2 ^ dist m W))]) (by simp [results, Try.results91, go_sem, *]) rfl ?_
 exact ⟨rfl, by go_grown⟩
theorem shift_ashr0 {W n m : Nat} {WW lo hi WW' lo' hi' : Int} (hw : Wd WW lo hi W n) (hw' : Wd WW' lo' hi' W m) (hs : n.testBit (W - 1) = false) (w : World) :
  Calls Try.prog 91 #[.int .i64 28, .agg #[.int .i64 WW, .int .u64 lo, .int .u64 hi], .agg #[.int .i64 WW', .int .u64 lo', .int .u64 hi']] w fun e w' => e = .returned (.agg #[.int .i64 W, .int .u64 (LO (n / 2 ^ dist m W)), .int .u64 (HI (n / 2 ^ dist m W))]) ∧ Below w.heap.size w w' := by
 obtain ⟨h1, h2, hn, rfl, rfl, rfl⟩ := hw
 obtain ⟨-, -, hn', rfl, rfl, rfl⟩ := hw'
 go_enter Try.func91, Try.ntmps91
 go_wp2_with fail
 refine (distance_any (Wd.mk' h1 h2 hn') _).mono ?_
 rintro e w1 ⟨rfl, hb1⟩
 have hb1' := below_step (w := w) (by go_grown) hb1
 have hs1 := hb1'.size
 have hz1_0 : w.heap.size < w1.heap.size := by have := hb1.size; (try simp at this); omega
 have hz1_1 : w.heap.size + 1 < w1.heap.size := by have := hb1.size; (try simp at this); omega
 have hz1_2 : w.heap.size + 1 + 1 < w1.heap.size := by have := hb1.size; (try simp at this); omega
 obtain ⟨hc1, hf1⟩ := bcell hb1
 go_wp2_with fail
 refine (isBelowZero_any (Wd.mk' h1 h2 hn) _).mono ?_
 rintro e w2 ⟨rfl, hb2⟩
 have hb2' := below_step (w := w) (by go_grown) hb2
 have hs2 := hb2'.size
 have hz2_0 : w.heap.size < w2.heap.size := by have := hb2.size; (try simp at this); omega
 have hz2_1 : w.heap.size + 1 < w2.heap.size := by have := hb2.size; (try simp at this); omega
 have hz2_2 : w.heap.size + 1 + 1 < w2.heap.size := by have := hb2.size; (try simp at this); omega
 obtain ⟨hc2, hf2⟩ := bcell hb2
 go_wp2_with fail
 refine (moveDown_any (Wd.mk' h1 h2 hn) rfl (dist_lt h2) _).mono ?_
 rintro e w3 ⟨rfl, hb3⟩
 have hb3' := below_step (w := w) (by go_grown) hb3
 have hs3 := hb3'.size
 have hz3_0 : w.heap.size < w3.heap.size := by have := hb3.size; (try simp at this); omega
 have hz3_1 : w.heap.size + 1 < w3.heap.size := by have := hb3.size; (try simp at this); omega
 have hz3_2 : w.heap.size + 1 + 1 < w3.heap.size := by have := hb3.size; (try simp at this); omega
 obtain ⟨hc3, hf3⟩ := bcell hb3
 go_wp2_with fail
 refine bodyPost_ret (v := .agg #[.int .i64 W, .int .u64 (LO (n / 2 ^ dist m W)), .int .u64 (HI (n / 2 ^ dist m W))]) (by simp [results, Try.results91, go_sem, *]) rfl ?_
 exact ⟨rfl, by go_grown⟩
theorem shift_ashr1 {W n m : Nat} {WW lo hi WW' lo' hi' : Int} (hw : Wd WW lo hi W n) (hw' : Wd WW' lo' hi' W m) (hs : n.testBit (W - 1) = true) (w : World) :
  Calls Try.prog 91 #[.int .i64 28, .agg #[.int .i64 WW, .int .u64 lo, .int .u64 hi], .agg #[.int .i64 WW', .int .u64 lo', .int .u64 hi']] w fun e w' => e = .returned (.agg #[.int .i64 W, .int .u64 (LO (2 ^ W - 1 - (2 ^ W - 1 - n) / 2 ^ dist m W)), .int .u64 (HI (2 ^ W - 1 - (2 ^ W - 1 - n) / 2 ^ dist m W))]) ∧ Below w.heap.size w w' := by
 obtain ⟨h1, h2, hn, rfl, rfl, rfl⟩ := hw
 obtain ⟨-, -, hn', rfl, rfl, rfl⟩ := hw'
 go_enter Try.func91, Try.ntmps91
 go_wp2_with fail
 refine (distance_any (Wd.mk' h1 h2 hn') _).mono ?_
 rintro e w1 ⟨rfl, hb1⟩
 have hb1' := below_step (w := w) (by go_grown) hb1
 have hs1 := hb1'.size
 have hz1_0 : w.heap.size < w1.heap.size := by have := hb1.size; (try simp at this); omega
 have hz1_1 : w.heap.size + 1 < w1.heap.size := by have := hb1.size; (try simp at this); omega
 have hz1_2 : w.heap.size + 1 + 1 < w1.heap.size := by have := hb1.size; (try simp at this); omega
 obtain ⟨hc1, hf1⟩ := bcell hb1
 go_wp2_with fail
 refine (isBelowZero_any (Wd.mk' h1 h2 hn) _).mono ?_
 rintro e w2 ⟨rfl, hb2⟩
 have hb2' := below_step (w := w) (by go_grown) hb2
 have hs2 := hb2'.size
 have hz2_0 : w.heap.size < w2.heap.size := by have := hb2.size; (try simp at this); omega
 have hz2_1 : w.heap.size + 1 < w2.heap.size := by have := hb2.size; (try simp at this); omega
 have hz2_2 : w.heap.size + 1 + 1 < w2.heap.size := by have := hb2.size; (try simp at this); omega
 obtain ⟨hc2, hf2⟩ := bcell hb2
 go_wp2_with fail
 refine (turn_any (Wd.mk' h1 h2 hn) _).mono ?_
 rintro e w3 ⟨rfl, hb3⟩
 have hb3' := below_step (w := w) (by go_grown) hb3
 have hs3 := hb3'.size
 have hz3_0 : w.heap.size < w3.heap.size := by have := hb3.size; (try simp at this); omega
 have hz3_1 : w.heap.size + 1 < w3.heap.size := by have := hb3.size; (try simp at this); omega
 have hz3_2 : w.heap.size + 1 + 1 < w3.heap.size := by have := hb3.size; (try simp at this); omega
 obtain ⟨hc3, hf3⟩ := bcell hb3
 go_wp2_with fail
 refine (moveDown_any (Wd.mk' h1 h2 (turn_lt n W)) rfl (dist_lt h2) _).mono ?_
 rintro e w4 ⟨rfl, hb4⟩
 have hb4' := below_step (w := w) (by go_grown) hb4
 have hs4 := hb4'.size
 have hz4_0 : w.heap.size < w4.heap.size := by have := hb4.size; (try simp at this); omega
 have hz4_1 : w.heap.size + 1 < w4.heap.size := by have := hb4.size; (try simp at this); omega
 have hz4_2 : w.heap.size + 1 + 1 < w4.heap.size := by have := hb4.size; (try simp at this); omega
 obtain ⟨hc4, hf4⟩ := bcell hb4
 go_wp2_with fail
 refine (turn_any (Wd.mk' h1 h2 (Nat.lt_of_le_of_lt (Nat.div_le_self _ _) (turn_lt n W))) _).mono ?_
 rintro e w5 ⟨rfl, hb5⟩
 have hb5' := below_step (w := w) (by go_grown) hb5
 have hs5 := hb5'.size
 have hz5_0 : w.heap.size < w5.heap.size := by have := hb5.size; (try simp at this); omega
 have hz5_1 : w.heap.size + 1 < w5.heap.size := by have := hb5.size; (try simp at this); omega
 have hz5_2 : w.heap.size + 1 + 1 < w5.heap.size := by have := hb5.size; (try simp at this); omega
 obtain ⟨hc5, hf5⟩ := bcell hb5
 go_wp2_with fail
 refine bodyPost_ret (v := .agg #[.int .i64 W, .int .u64 (LO (2 ^ W - 1 - (2 ^ W - 1 - n) / 2 ^ dist m W)), .int .u64 (HI (2 ^ W - 1 - (2 ^ W - 1 - n) / 2 ^ dist m W))]) (by simp [results, Try.results91, go_sem, *]) rfl ?_
 exact ⟨rfl, by go_grown⟩
end Go.Proofs.Ytedldoobmmhloaa
