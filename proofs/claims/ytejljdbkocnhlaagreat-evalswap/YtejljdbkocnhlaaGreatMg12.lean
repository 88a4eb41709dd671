import Derived.Test.YtejljdbkocnhlaaGreatMg3
import Derived.Test.YtejljdbkocnhlaaGreatH
namespace Go.Proofs.YtejljdbkocnhlaaGreat
set_option maxHeartbeats 12800000
set_option maxRecDepth 100000
open Go.RowKit
set_option linter.unusedSimpArgs false
set_option linter.unusedVariables false
theorem bitwise_and {W n m : Nat} {WW lo hi WW' lo' hi' : Int} (hw : Wd WW lo hi W n) (hw' : Wd WW' lo' hi' W m) (w : World) :
  Rt 115 #[.int .i64 12, .agg #[.int .i64 WW, .int .u64 lo, .int .u64 hi], .agg #[.int .i64 WW', .int .u64 lo', .int .u64 hi']] w (.agg #[.int .i64 W, .int .u64 (LO (n &&& m)), .int .u64 (HI (n &&& m))]) := by
 have hbig := hw.big
 have hbig' := hw'.big
 obtain ⟨h1, h2, hn, rfl, rfl, rfl⟩ := hw
 obtain ⟨-, -, hn', rfl, rfl, rfl⟩ := hw'
 have hlt : n &&& m < 2 ^ W := Nat.and_lt_two_pow _ hn'
 go_enter Tryz.func115, Tryz.ntmps115
 go_wp2_with fail
 refine (cut_any (m := n &&& m) (r := n &&& m) h1 h2 (Nat.lt_of_lt_of_le hlt (pow_le_128 h2)) (Nat.mod_eq_of_lt hlt) rfl (lo_and n m) (hi_and hbig hbig') _).mono ?_
 rintro e w1 ⟨rfl, hb1⟩
 have hb1' := below_step (w := w) (by go_grown) hb1
 have hs1 := hb1'.size
 have hz1_0 : w.heap.size < w1.heap.size := by have := hb1.size; (try simp at this); omega
 have hz1_1 : w.heap.size + 1 < w1.heap.size := by have := hb1.size; (try simp at this); omega
 have hz1_2 : w.heap.size + 1 + 1 < w1.heap.size := by have := hb1.size; (try simp at this); omega
 have hz1_3 : w.heap.size + 1 + 1 + 1 < w1.heap.size := by have := hb1.size; (try simp at this); omega
 obtain ⟨hc1, hf1⟩ := bcell hb1
 go_wp2_with fail
 refine bodyPost_ret (v := .agg #[.int .i64 W, .int .u64 (LO (n &&& m)), .int .u64 (HI (n &&& m))]) (by simp [results, Tryz.results115, go_sem, *]) rfl ?_
 exact ⟨rfl, by go_grown⟩
theorem bitwise_nand {W n m : Nat} {WW lo hi WW' lo' hi' : Int} (hw : Wd WW lo hi W n) (hw' : Wd WW' lo' hi' W m) (w : World) :
  Rt 115 #[.int .i64 15, .agg #[.int .i64 WW, .int .u64 lo, .int .u64 hi], .agg #[.int .i64 WW', .int .u64 lo', .int .u64 hi']] w (.agg #[.int .i64 W, .int .u64 (LO (2 ^ W - 1 - (n &&& m))), .int .u64 (HI (2 ^ W - 1 - (n &&& m)))]) := by
 have hbig := hw.big
 have hbig' := hw'.big
 obtain ⟨h1, h2, hn, rfl, rfl, rfl⟩ := hw
 obtain ⟨-, -, hn', rfl, rfl, rfl⟩ := hw'
 have hlt : n &&& m < 2 ^ W := Nat.and_lt_two_pow _ hn'
 go_enter Tryz.func115, Tryz.ntmps115
 go_wp2_with fail
 refine (cut_any (m := n &&& m) (r := n &&& m) h1 h2 (Nat.lt_of_lt_of_le hlt (pow_le_128 h2)) (Nat.mod_eq_of_lt hlt) rfl (lo_and n m) (hi_and hbig hbig') _).mono ?_
 rintro e w1 ⟨rfl, hb1⟩
 have hb1' := below_step (w := w) (by go_grown) hb1
 have hs1 := hb1'.size
 have hz1_0 : w.heap.size < w1.heap.size := by have := hb1.size; (try simp at this); omega
 have hz1_1 : w.heap.size + 1 < w1.heap.size := by have := hb1.size; (try simp at this); omega
 have hz1_2 : w.heap.size + 1 + 1 < w1.heap.size := by have := hb1.size; (try simp at this); omega
 have hz1_3 : w.heap.size + 1 + 1 + 1 < w1.heap.size := by have := hb1.size; (try simp at this); omega
 obtain ⟨hc1, hf1⟩ := bcell hb1
 go_wp2_with fail
 refine (turn_any (Wd.mk' h1 h2 hlt) _).mono ?_
 rintro e w2 ⟨rfl, hb2⟩
 have hb2' := below_step (w := w) (by go_grown) hb2
 have hs2 := hb2'.size
 have hz2_0 : w.heap.size < w2.heap.size := by have := hb2.size; (try simp at this); omega
 have hz2_1 : w.heap.size + 1 < w2.heap.size := by have := hb2.size; (try simp at this); omega
 have hz2_2 : w.heap.size + 1 + 1 < w2.heap.size := by have := hb2.size; (try simp at this); omega
 have hz2_3 : w.heap.size + 1 + 1 + 1 < w2.heap.size := by have := hb2.size; (try simp at this); omega
 obtain ⟨hc2, hf2⟩ := bcell hb2
 go_wp2_with fail
 refine bodyPost_ret (v := .agg #[.int .i64 W, .int .u64 (LO (2 ^ W - 1 - (n &&& m))), .int .u64 (HI (2 ^ W - 1 - (n &&& m)))]) (by simp [results, Tryz.results115, go_sem, *]) rfl ?_
 exact ⟨rfl, by go_grown⟩
theorem bitwise_or {W n m : Nat} {WW lo hi WW' lo' hi' : Int} (hw : Wd WW lo hi W n) (hw' : Wd WW' lo' hi' W m) (w : World) :
  Rt 115 #[.int .i64 13, .agg #[.int .i64 WW, .int .u64 lo, .int .u64 hi], .agg #[.int .i64 WW', .int .u64 lo', .int .u64 hi']] w (.agg #[.int .i64 W, .int .u64 (LO (n ||| m)), .int .u64 (HI (n ||| m))]) := by
 have hbig := hw.big
 have hbig' := hw'.big
 obtain ⟨h1, h2, hn, rfl, rfl, rfl⟩ := hw
 obtain ⟨-, -, hn', rfl, rfl, rfl⟩ := hw'
 have hlt : n ||| m < 2 ^ W := Nat.or_lt_two_pow hn hn'
 go_enter Tryz.func115, Tryz.ntmps115
 go_wp2_with fail
 refine (cut_any (m := n ||| m) (r := n ||| m) h1 h2 (Nat.lt_of_lt_of_le hlt (pow_le_128 h2)) (Nat.mod_eq_of_lt hlt) rfl (lo_or n m) (hi_or hbig hbig') _).mono ?_
 rintro e w1 ⟨rfl, hb1⟩
 have hb1' := below_step (w := w) (by go_grown) hb1
 have hs1 := hb1'.size
 have hz1_0 : w.heap.size < w1.heap.size := by have := hb1.size; (try simp at this); omega
 have hz1_1 : w.heap.size + 1 < w1.heap.size := by have := hb1.size; (try simp at this); omega
 have hz1_2 : w.heap.size + 1 + 1 < w1.heap.size := by have := hb1.size; (try simp at this); omega
 have hz1_3 : w.heap.size + 1 + 1 + 1 < w1.heap.size := by have := hb1.size; (try simp at this); omega
 obtain ⟨hc1, hf1⟩ := bcell hb1
 go_wp2_with fail
 refine bodyPost_ret (v := .agg #[.int .i64 W, .int .u64 (LO (n ||| m)), .int .u64 (HI (n ||| m))]) (by simp [results, Tryz.results115, go_sem, *]) rfl ?_
 exact ⟨rfl, by go_grown⟩
theorem bitwise_nor {W n m : Nat} {WW lo hi WW' lo' hi' : Int} (hw : Wd WW lo hi W n) (hw' : Wd WW' lo' hi' W m) (w : World) :
  Rt 115 #[.int .i64 16, .agg #[.int .i64 WW, .int .u64 lo, .int .u64 hi], .agg #[.int .i64 WW', .int .u64 lo', .int .u64 hi']] w (.agg #[.int .i64 W, .int .u64 (LO (2 ^ W - 1 - (n ||| m))), .int .u64 (HI (2 ^ W - 1 - (n ||| m)))]) := by
 have hbig := hw.big
 have hbig' := hw'.big
 obtain ⟨h1, h2, hn, rfl, rfl, rfl⟩ := hw
 obtain ⟨-, -, hn', rfl, rfl, rfl⟩ := hw'
 have hlt : n ||| m < 2 ^ W := Nat.or_lt_two_pow hn hn'
 go_enter Tryz.func115, Tryz.ntmps115
 go_wp2_with fail
 refine (cut_any (m := n ||| m) (r := n ||| m) h1 h2 (Nat.lt_of_lt_of_le hlt (pow_le_128 h2)) (Nat.mod_eq_of_lt hlt) rfl (lo_or n m) (hi_or hbig hbig') _).mono ?_
 rintro e w1 ⟨rfl, hb1⟩
 have hb1' := below_step (w := w) (by go_grown) hb1
 have hs1 := hb1'.size
 have hz1_0 : w.heap.size < w1.heap.size := by have := hb1.size; (try simp at this); omega
 have hz1_1 : w.heap.size + 1 < w1.heap.size := by have := hb1.size; (try simp at this); omega
 have hz1_2 : w.heap.size + 1 + 1 < w1.heap.size := by have := hb1.size; (try simp at this); omega
 have hz1_3 : w.heap.size + 1 + 1 + 1 < w1.heap.size := by have := hb1.size; (try simp at this); omega
 obtain ⟨hc1, hf1⟩ := bcell hb1
 go_wp2_with fail
 refine (turn_any (Wd.mk' h1 h2 hlt) _).mono ?_
 rintro e w2 ⟨rfl, hb2⟩
 have hb2' := below_step (w := w) (by go_grown) hb2
 have hs2 := hb2'.size
 have hz2_0 : w.heap.size < w2.heap.size := by have := hb2.size; (try simp at this); omega
 have hz2_1 : w.heap.size + 1 < w2.heap.size := by have := hb2.size; (try simp at this); omega
 have hz2_2 : w.heap.size + 1 + 1 < w2.heap.size := by have := hb2.size; (try simp at this); omega
 have hz2_3 : w.heap.size + 1 + 1 + 1 < w2.heap.size := by have := hb2.size; (try simp at this); omega
 obtain ⟨hc2, hf2⟩ := bcell hb2
 go_wp2_with fail
 refine bodyPost_ret (v := .agg #[.int .i64 W, .int .u64 (LO (2 ^ W - 1 - (n ||| m))), .int .u64 (HI (2 ^ W - 1 - (n ||| m)))]) (by simp [results, Tryz.results115, go_sem, *]) rfl ?_
 exact ⟨rfl, by go_grown⟩
theorem bitwise_xor {W n m : Nat} {WW lo hi WW' lo' hi' : Int} (hw : Wd WW lo hi W n) (hw' : Wd WW' lo' hi' W m) (w : World) :
  Rt 115 #[.int .i64 14, .agg #[.int .i64 WW, .int .u64 lo, .int .u64 hi], .agg #[.int .i64 WW', .int .u64 lo', .int .u64 hi']] w (.agg #[.int .i64 W, .int .u64 (LO (n ^^^ m)), .int .u64 (HI (n ^^^ m))]) := by
 have hbig := hw.big
 have hbig' := hw'.big
 obtain ⟨h1, h2, hn, rfl, rfl, rfl⟩ := hw
 obtain ⟨-, -, hn', rfl, rfl, rfl⟩ := hw'
 have hlt : n ^^^ m < 2 ^ W := Nat.xor_lt_two_pow hn hn'
 go_enter Tryz.func115, Tryz.ntmps115
 go_wp2_with fail
 refine (cut_any (m := n ^^^ m) (r := n ^^^ m) h1 h2 (Nat.lt_of_lt_of_le hlt (pow_le_128 h2)) (Nat.mod_eq_of_lt hlt) rfl (lo_xor n m) (hi_xor hbig hbig') _).mono ?_
 rintro e w1 ⟨rfl, hb1⟩
 have hb1' := below_step (w := w) (by go_grown) hb1
 have hs1 := hb1'.size
 have hz1_0 : w.heap.size < w1.heap.size := by have := hb1.size; (try simp at this); omega
 have hz1_1 : w.heap.size + 1 < w1.heap.size := by have := hb1.size; (try simp at this); omega
 have hz1_2 : w.heap.size + 1 + 1 < w1.heap.size := by have := hb1.size; (try simp at this); omega
 have hz1_3 : w.heap.size + 1 + 1 + 1 < w1.heap.size := by have := hb1.size; (try simp at this); omega
 obtain ⟨hc1, hf1⟩ := bcell hb1
 go_wp2_with fail
 refine bodyPost_ret (v := .agg #[.int .i64 W, .int .u64 (LO (n ^^^ m)), .int .u64 (HI (n ^^^ m))]) (by simp [results, Tryz.results115, go_sem, *]) rfl ?_
 exact ⟨rfl, by go_grown⟩
theorem bitwise_nxor {W n m : Nat} {WW lo hi WW' lo' hi' : Int} (hw : Wd WW lo hi W n) (hw' : Wd WW' lo' hi' W m) (w : World) :
  Rt 115 #[.int .i64 17, .agg #[.int .i64 WW, .int .u64 lo, .int .u64 hi], .agg #[.int .i64 WW', .int .u64 lo', .int .u64 hi']] w (.agg #[.int .i64 W, .int .u64 (LO (2 ^ W - 1 - (n ^^^ m))), .int .u64 (HI (2 ^ W - 1 - (n ^^^ m)))]) := by
 have hbig := hw.big
 have hbig' := hw'.big
 obtain ⟨h1, h2, hn, rfl, rfl, rfl⟩ := hw
 obtain ⟨-, -, hn', rfl, rfl, rfl⟩ := hw'
 have hlt : n ^^^ m < 2 ^ W := Nat.xor_lt_two_pow hn hn'
 go_enter Tryz.func115, Tryz.ntmps115
 go_wp2_with fail
 refine (cut_any (m := n ^^^ m) (r := n ^^^ m) h1 h2 (Nat.lt_of_lt_of_le hlt (pow_le_128 h2)) (Nat.mod_eq_of_lt hlt) rfl (lo_xor n m) (hi_xor hbig hbig') _).mono ?_
 rintro e w1 ⟨rfl, hb1⟩
 have hb1' := below_step (w := w) (by go_grown) hb1
 have hs1 := hb1'.size
 have hz1_0 : w.heap.size < w1.heap.size := by have := hb1.size; (try simp at this); omega
 have hz1_1 : w.heap.size + 1 < w1.heap.size := by have := hb1.size; (try simp at this); omega
 have hz1_2 : w.heap.size + 1 + 1 < w1.heap.size := by have := hb1.size; (try simp at this); omega
 have hz1_3 : w.heap.size + 1 + 1 + 1 < w1.heap.size := by have := hb1.size; (try simp at this); omega
 obtain ⟨hc1, hf1⟩ := bcell hb1
 go_wp2_with fail
 refine (turn_any (Wd.mk' h1 h2 hlt) _).mono ?_
 rintro e w2 ⟨rfl, hb2⟩
 have hb2' := below_step (w := w) (by go_grown) hb2
 have hs2 := hb2'.size
 have hz2_0 : w.heap.size < w2.heap.size := by have := hb2.size; (try simp at this); omega
 have hz2_1 : w.heap.size + 1 < w2.heap.size := by have := hb2.size; (try simp at this); omega
 have hz2_2 : w.heap.size + 1 + 1 < w2.heap.size := by have := hb2.size; (try simp at this); omega
 have hz2_3 : w.heap.size + 1 + 1 + 1 < w2.heap.size := by have := hb2.size; (try simp at this); omega
 obtain ⟨hc2, hf2⟩ := bcell hb2
 go_wp2_with fail
 refine bodyPost_ret (v := .agg #[.int .i64 W, .int .u64 (LO (2 ^ W - 1 - (n ^^^ m))), .int .u64 (HI (2 ^ W - 1 - (n ^^^ m)))]) (by simp [results, Tryz.results115, go_sem, *]) rfl ?_
 exact ⟨rfl, by go_grown⟩
theorem arith_add {W n m : Nat} {WW lo hi WW' lo' hi' : Int} (hw : Wd WW lo hi W n) (hw' : Wd WW' lo' hi' W m) (w : World) :
  Rt 117 #[.int .i64 18, .agg #[.int .i64 WW, .int .u64 lo, .int .u64 hi], .agg #[.int .i64 WW', .int .u64 lo', .int .u64 hi']] w (.agg #[.int .i64 W, .int .u64 (LO ((n + m) % 2 ^ W)), .int .u64 (HI ((n + m) % 2 ^ W))]) := by
 obtain ⟨h1, h2, hn, rfl, rfl, rfl⟩ := hw
 obtain ⟨-, -, hn', rfl, rfl, rfl⟩ := hw'
 go_enter Tryz.func117, Tryz.ntmps117
 go_wp2_with fail
 refine (add_any (Wd.mk' h1 h2 hn) (Wd.mk' h1 h2 hn') _).mono ?_
 rintro e w1 ⟨rfl, hb1⟩
 have hb1' := below_step (w := w) (by go_grown) hb1
 have hs1 := hb1'.size
 have hz1_0 : w.heap.size < w1.heap.size := by have := hb1.size; (try simp at this); omega
 have hz1_1 : w.heap.size + 1 < w1.heap.size := by have := hb1.size; (try simp at this); omega
 have hz1_2 : w.heap.size + 1 + 1 < w1.heap.size := by have := hb1.size; (try simp at this); omega
 obtain ⟨hc1, hf1⟩ := bcell hb1
 go_wp2_with fail
 refine bodyPost_ret (v := .agg #[.int .i64 W, .int .u64 (LO ((n + m) % 2 ^ W)), .int .u64 (HI ((n + m) % 2 ^ W))]) (by simp [results, Tryz.results117, go_sem, *]) rfl ?_
 exact ⟨rfl, by go_grown⟩
theorem arith_sub {W n m : Nat} {WW lo hi WW' lo' hi' : Int} (hw : Wd WW lo hi W n) (hw' : Wd WW' lo' hi' W m) (w : World) :
  Rt 117 #[.int .i64 19, .agg #[.int .i64 WW, .int .u64 lo, .int .u64 hi], .agg #[.int .i64 WW', .int .u64 lo', .int .u64 hi']] w (.agg #[.int .i64 W, .int .u64 (LO ((n + neg W m) % 2 ^ W)), .int .u64 (HI ((n + neg W m) % 2 ^ W))]) := by
 obtain ⟨h1, h2, hn, rfl, rfl, rfl⟩ := hw
 obtain ⟨-, -, hn', rfl, rfl, rfl⟩ := hw'
 go_enter Tryz.func117, Tryz.ntmps117
 go_wp2_with fail
 refine (negate_any (Wd.mk' h1 h2 hn') _).mono ?_
 rintro e w1 ⟨rfl, hb1⟩
 have hb1' := below_step (w := w) (by go_grown) hb1
 have hs1 := hb1'.size
 have hz1_0 : w.heap.size < w1.heap.size := by have := hb1.size; (try simp at this); omega
 have hz1_1 : w.heap.size + 1 < w1.heap.size := by have := hb1.size; (try simp at this); omega
 have hz1_2 : w.heap.size + 1 + 1 < w1.heap.size := by have := hb1.size; (try simp at this); omega
 obtain ⟨hc1, hf1⟩ := bcell hb1
 go_wp2_with fail
 refine (add_any (Wd.mk' h1 h2 hn) (Wd.mk' h1 h2 (neg_lt W m)) _).mono ?_
 rintro e w2 ⟨rfl, hb2⟩
 have hb2' := below_step (w := w) (by go_grown) hb2
 have hs2 := hb2'.size
 have hz2_0 : w.heap.size < w2.heap.size := by have := hb2.size; (try simp at this); omega
 have hz2_1 : w.heap.size + 1 < w2.heap.size := by have := hb2.size; (try simp at this); omega
 have hz2_2 : w.heap.size + 1 + 1 < w2.heap.size := by have := hb2.size; (try simp at this); omega
 obtain ⟨hc2, hf2⟩ := bcell hb2
 go_wp2_with fail
 refine bodyPost_ret (v := .agg #[.int .i64 W, .int .u64 (LO ((n + neg W m) % 2 ^ W)), .int .u64 (HI ((n + neg W m) % 2 ^ W))]) (by simp [results, Tryz.results117, go_sem, *]) rfl ?_
 exact ⟨rfl, by go_grown⟩
theorem arith_mul {W n m : Nat} {WW lo hi WW' lo' hi' : Int} (hw : Wd WW lo hi W n) (hw' : Wd WW' lo' hi' W m) (w : World) :
  Rt 117 #[.int .i64 20, .agg #[.int .i64 WW, .int .u64 lo, .int .u64 hi], .agg #[.int .i64 WW', .int .u64 lo', .int .u64 hi']] w (.agg #[.int .i64 W, .int .u64 (LO (n * m % 2 ^ W)), .int .u64 (HI (n * m % 2 ^ W))]) := by
 obtain ⟨h1, h2, hn, rfl, rfl, rfl⟩ := hw
 obtain ⟨-, -, hn', rfl, rfl, rfl⟩ := hw'
 go_enter Tryz.func117, Tryz.ntmps117
 go_wp2_with fail
 refine (multiply_any (Wd.mk' h1 h2 hn) (Wd.mk' h1 h2 hn') _).mono ?_
 rintro e w1 ⟨rfl, hb1⟩
 have hb1' := below_step (w := w) (by go_grown) hb1
 have hs1 := hb1'.size
 have hz1_0 : w.heap.size < w1.heap.size := by have := hb1.size; (try simp at this); omega
 have hz1_1 : w.heap.size + 1 < w1.heap.size := by have := hb1.size; (try simp at this); omega
 have hz1_2 : w.heap.size + 1 + 1 < w1.heap.size := by have := hb1.size; (try simp at this); omega
 obtain ⟨hc1, hf1⟩ := bcell hb1
 go_wp2_with fail
 refine bodyPost_ret (v := .agg #[.int .i64 W, .int .u64 (LO (n * m % 2 ^ W)), .int .u64 (HI (n * m % 2 ^ W))]) (by simp [results, Tryz.results117, go_sem, *]) rfl ?_
 exact ⟨rfl, by go_grown⟩
theorem withSignOf_any {W n m : Nat} {WW lo hi WW' lo' hi' : Int} (hw : Wd WW lo hi W n) (hw' : Wd WW' lo' hi' W m) (w : World) :
  Rt 139 #[.agg #[.int .i64 WW, .int .u64 lo, .int .u64 hi], .agg #[.int .i64 WW', .int .u64 lo', .int .u64 hi']] w (.agg #[.int .i64 W, .int .u64 (LO (wsign W n m)), .int .u64 (HI (wsign W n m))]) := by
 obtain ⟨h1, h2, hn, rfl, rfl, rfl⟩ := hw
 obtain ⟨-, -, hn', rfl, rfl, rfl⟩ := hw'
 cases hs : n.testBit (W - 1)
 ·have e : wsign W n m = m := by simp [wsign, hs]
  rw [e]
  clear e
  go_enter Tryz.func139, Tryz.ntmps139
  go_wp2_with fail
  refine (isBelowZero_any (Wd.mk' h1 h2 hn) _).mono ?_
  rintro e w1 ⟨rfl, hb1⟩
  have hb1' := below_step (w := w) (by go_grown) hb1
  have hs1 := hb1'.size
  have hz1_0 : w.heap.size < w1.heap.size := by have := hb1.size; (try simp at this); omega
  have hz1_1 : w.heap.size + 1 < w1.heap.size := by have := hb1.size; (try simp at this); omega
  have hz1_2 : w.heap.size + 1 + 1 < w1.heap.size := by have := hb1.size; (try simp at this); omega
  obtain ⟨hc1, hf1⟩ := bcell hb1
  go_wp2_with fail
  refine bodyPost_ret (v := .agg #[.int .i64 W, .int .u64 (LO (m)), .int .u64 (HI (m))]) (by simp [results, Tryz.results139, go_sem, *]) rfl ?_
  exact ⟨rfl, by go_grown⟩
 ·have e : wsign W n m = neg W m := by simp [wsign, hs]
  rw [e]
  clear e
  go_enter Tryz.func139, Tryz.ntmps139
  go_wp2_with fail
  refine (isBelowZero_any (Wd.mk' h1 h2 hn) _).mono ?_
  rintro e w1 ⟨rfl, hb1⟩
  have hb1' := below_step (w := w) (by go_grown) hb1
  have hs1 := hb1'.size
  have hz1_0 : w.heap.size < w1.heap.size := by have := hb1.size; (try simp at this); omega
  have hz1_1 : w.heap.size + 1 < w1.heap.size := by have := hb1.size; (try simp at this); omega
  have hz1_2 : w.heap.size + 1 + 1 < w1.heap.size := by have := hb1.size; (try simp at this); omega
  obtain ⟨hc1, hf1⟩ := bcell hb1
  go_wp2_with fail
  refine (negate_any (Wd.mk' h1 h2 hn') _).mono ?_
  rintro e w2 ⟨rfl, hb2⟩
  have hb2' := below_step (w := w) (by go_grown) hb2
  have hs2 := hb2'.size
  have hz2_0 : w.heap.size < w2.heap.size := by have := hb2.size; (try simp at this); omega
  have hz2_1 : w.heap.size + 1 < w2.heap.size := by have := hb2.size; (try simp at this); omega
  have hz2_2 : w.heap.size + 1 + 1 < w2.heap.size := by have := hb2.size; (try simp at this); omega
  obtain ⟨hc2, hf2⟩ := bcell hb2
  go_wp2_with fail
  refine bodyPost_ret (v := .agg #[.int .i64 W, .int .u64 (LO (neg W m)), .int .u64 (HI (neg W m))]) (by simp [results, Tryz.results139, go_sem, *]) rfl ?_
  exact ⟨rfl, by go_grown⟩
theorem size_any {W n : Nat} {WW lo hi : Int} (hw : Wd WW lo hi W n) (w : World) :
  Rt 138 #[.agg #[.int .i64 WW, .int .u64 lo, .int .u64 hi]] w (.agg #[.int .i64 W, .int .u64 (LO (wsign W n n)), .int .u64 (HI (wsign W n n))]) := by
 obtain ⟨h1, h2, hn, rfl, rfl, rfl⟩ := hw
 go_enter Tryz.func138, Tryz.ntmps138
 go_wp2_with fail
 refine (withSignOf_any (Wd.mk' h1 h2 hn) (Wd.mk' h1 h2 hn) _).mono ?_
 rintro e w1 ⟨rfl, hb1⟩
 have hb1' := below_step (w := w) (by go_grown) hb1
 have hs1 := hb1'.size
 have hz1_0 : w.heap.size < w1.heap.size := by have := hb1.size; (try simp at this); omega
 have hz1_1 : w.heap.size + 1 < w1.heap.size := by have := hb1.size; (try simp at this); omega
 obtain ⟨hc1, hf1⟩ := bcell hb1
 go_wp2_with fail
 refine bodyPost_ret (v := .agg #[.int .i64 W, .int .u64 (LO (wsign W n n)), .int .u64 (HI (wsign W n n))]) (by simp [results, Tryz.results138, go_sem, *]) rfl ?_
 exact ⟨rfl, by go_grown⟩
theorem leastSigned_any {W : Nat} {WW : Int} (h1 : 1 ≤ W) (h2 : W ≤ 128) (hw : WW = W) (w : World) :
  Rt 147 #[.int .i64 WW] w (.agg #[.int .i64 W, .int .u64 (LO (2 ^ (W - 1))), .int .u64 (HI (2 ^ (W - 1)))]) := by
 subst hw
 have HT : Hid _ := top_mod h1
 go_enter Tryz.func147, Tryz.ntmps147
 go_wp2_with fail
 refine (cut_any (m := 1) (r := 1) h1 h2 (by decide) (one_mod h1) rfl lo1 hi1 _).mono ?_
 rintro e w1 ⟨rfl, hb1⟩
 have hb1' := below_step (w := w) (by go_grown) hb1
 have hs1 := hb1'.size
 have hz1_0 : w.heap.size < w1.heap.size := by have := hb1.size; (try simp at this); omega
 obtain ⟨hc1, hf1⟩ := bcell hb1
 go_wp2_with fail
 refine (moveUp_any (k := W - 1) (Wd.mk' h1 h2 (Nat.one_lt_two_pow (by omega))) (by omega) (by omega) _).mono ?_
 rintro e w2 ⟨rfl, hb2⟩
 have hb2' := below_step (w := w) (by go_grown) hb2
 have hs2 := hb2'.size
 have hz2_0 : w.heap.size < w2.heap.size := by have := hb2.size; (try simp at this); omega
 obtain ⟨hc2, hf2⟩ := bcell hb2
 rw [HT.out]
 go_wp2_with fail
 refine bodyPost_ret (v := .agg #[.int .i64 W, .int .u64 (LO (2 ^ (W - 1))), .int .u64 (HI (2 ^ (W - 1)))]) (by simp [results, Tryz.results147, go_sem, *]) rfl ?_
 exact ⟨rfl, by go_grown⟩
theorem turnHighest_any {W n : Nat} {WW lo hi : Int} (hw : Wd WW lo hi W n) (w : World) :
  Rt 141 #[.agg #[.int .i64 WW, .int .u64 lo, .int .u64 hi]] w (.agg #[.int .i64 W, .int .u64 (LO (top W n)), .int .u64 (HI (top W n))]) := by
 obtain ⟨h1, h2, hn, rfl, rfl, rfl⟩ := hw
 go_enter Tryz.func141, Tryz.ntmps141
 go_wp2_with fail
 go_region_held3 (fun x => x.cell? ⟨w.heap.size, 0, none⟩ = some (.int .i64 W) ∧ x.cell? ⟨w.heap.size, 1, none⟩ = some (.int .u64 (LO (n))) ∧ x.cell? ⟨w.heap.size, 2, none⟩ = some (.int .u64 (HI (n))) ∧ x.cell? ⟨w.heap.size + 1, 0, none⟩ = some (cv x ⟨w.heap.size + 1, 0, none⟩) ∧ x.cell? ⟨w.heap.size + 1, 1, none⟩ = some (cv x ⟨w.heap.size + 1, 1, none⟩) ∧ x.cell? ⟨w.heap.size + 1, 2, none⟩ = some (cv x ⟨w.heap.size + 1, 2, none⟩) ∧ (∀ o, x.frozen? ⟨w.heap.size + 1, o, none⟩ = false) ∧ Below w.heap.size w x)
  ((first | (obtain ⟨q0, q1, q2, q3, q4, q5, q6, q7⟩ := ‹_ ∧ _ ∧ _ ∧ _ ∧ _ ∧ _ ∧ _ ∧ _›; with_reducible exact ⟨keep_cell hb q0, keep_cell hb q1, keep_cell hb q2, cv_of (keep_cell hb q3), cv_of (keep_cell hb q4), cv_of (keep_cell hb q5), keep_frozen hb q3 q6, below_step q7 hb⟩) | (obtain ⟨q0, q1, q2, q3, q4, q5, q6, q7⟩ := ‹_ ∧ _ ∧ _ ∧ _ ∧ _ ∧ _ ∧ _ ∧ _›; with_reducible exact ⟨put_cell (by omega) q0, put_cell (by omega) q1, put_cell (by omega) q2, put_own0 q3, put_own1 q4, put_own2 q5, put_frozen q6, put_below q7 (by omega)⟩) | (refine ⟨?_, ?_, ?_, ?_, ?_, ?_, ?_, ?_⟩ <;> first | (simp [go_sem]; done) | (refine cv_some ?_; simp [go_sem]; done) | go_grown)))
  ((first | (go_at_call 147; refine (leastSigned_any h1 h2 rfl _).mono ?_; rintro e w1 ⟨rfl, hb⟩) | (go_at_call 115; refine (bitwise_xor (Wd.mk' h1 h2 hn) (Wd.mk' h1 h2 (two_pow_pred h1)) _).mono ?_; rintro e w1 ⟨rfl, hb⟩)))
 obtain ⟨hq1_0, hq1_1, hq1_2, hR3, hR4, hR5, -, hBq1⟩ := ‹_ ∧ _ ∧ _ ∧ _ ∧ _ ∧ _ ∧ _ ∧ _›
 have HR3 : Hid _ := hR3
 clear hR3
 have HR4 : Hid _ := hR4
 clear hR4
 have HR5 : Hid _ := hR5
 clear hR5
 go_wp2_with fail
 refine bodyPost_ret (ret_bits rfl rfl (got0 HR3.out) (got1 HR4.out) (got2 HR5.out)) rfl ?_
 exact ⟨rfl, by go_grown⟩
theorem distance_any {W n : Nat} {WW lo hi : Int} (hw : Wd WW lo hi W n) (w : World) :
  Rt 140 #[.agg #[.int .i64 WW, .int .u64 lo, .int .u64 hi]] w (.int .i64 (dist n W)) := by
 obtain ⟨h1, h2, hn, rfl, rfl, rfl⟩ := hw
 by_cases h : HI n = 0
 ·have hq : (HI n != 0) = false := by simp [h]
  by_cases hl : LO n ≤ W
  ·have HD : Hid _ := dist_near hl h
   have hl0 : 0 ≤ LO n := by unfold LO; omega
   clear h
   go_enter Tryz.func140, Tryz.ntmps140
   go_wp2_with fail
   go_ret
   exact ⟨ret_int HD.out, by go_grown⟩
  ·have HD : Hid _ := dist_far (Or.inl hl) h2
   have hl0 : (W : Int) < LO n := by omega
   clear h hl
   go_enter Tryz.func140, Tryz.ntmps140
   go_wp2_with fail
   go_ret
   exact ⟨ret_int HD.out, by go_grown⟩
 ·have HD : Hid _ := dist_far (Or.inr h) h2
  have hq : (HI n != 0) = true := by simp [h]
  clear h
  go_enter Tryz.func140, Tryz.ntmps140
  go_wp2_with fail
  go_ret
  exact ⟨ret_int HD.out, by go_grown⟩
theorem widen_any {W n V m : Nat} {WW lo hi VV : Int} (hw : Wd WW lo hi W n) (hv1 : 1 ≤ V) (hv2 : V ≤ 128) (hv : VV = V) (hm : n % 2 ^ V = m) (w : World) :
  Rt 114 #[.agg #[.int .i64 WW, .int .u64 lo, .int .u64 hi], .int .i64 VV] w (.agg #[.int .i64 V, .int .u64 (LO (m)), .int .u64 (HI (m))]) := by
 have hbig := hw.big
 obtain ⟨h1, h2, hn, rfl, rfl, rfl⟩ := hw
 subst hv
 go_enter Tryz.func114, Tryz.ntmps114
 go_wp2_with fail
 refine (cut_any (m := n) (r := m) hv1 hv2 hbig hm rfl rfl rfl _).mono ?_
 rintro e w1 ⟨rfl, hb1⟩
 have hb1' := below_step (w := w) (by go_grown) hb1
 have hs1 := hb1'.size
 have hz1_0 : w.heap.size < w1.heap.size := by have := hb1.size; (try simp at this); omega
 have hz1_1 : w.heap.size + 1 < w1.heap.size := by have := hb1.size; (try simp at this); omega
 obtain ⟨hc1, hf1⟩ := bcell hb1
 go_wp2_with fail
 refine bodyPost_ret (v := .agg #[.int .i64 V, .int .u64 (LO (m)), .int .u64 (HI (m))]) (by simp [results, Tryz.results114, go_sem, *]) rfl ?_
 exact ⟨rfl, by go_grown⟩
theorem shift_shl {W n m : Nat} {WW lo hi WW' lo' hi' : Int} (hw : Wd WW lo hi W n) (hw' : Wd WW' lo' hi' W m) (w : World) :
  Rt 120 #[.int .i64 26, .agg #[.int .i64 WW, .int .u64 lo, .int .u64 hi], .agg #[.int .i64 WW', .int .u64 lo', .int .u64 hi']] w (.agg #[.int .i64 W, .int .u64 (LO (n * 2 ^ dist m W % 2 ^ W)), .int .u64 (HI (n * 2 ^ dist m W % 2 ^ W))]) := by
 obtain ⟨h1, h2, hn, rfl, rfl, rfl⟩ := hw
 obtain ⟨-, -, hn', rfl, rfl, rfl⟩ := hw'
 go_enter Tryz.func120, Tryz.ntmps120
 go_wp2_with fail
 refine (distance_any (Wd.mk' h1 h2 hn') _).mono ?_
 rintro e w1 ⟨rfl, hb1⟩
 have hb1' := below_step (w := w) (by go_grown) hb1
 have hs1 := hb1'.size
 have hz1_0 : w.heap.size < w1.heap.size := by have := hb1.size; (try simp at this); omega
 have hz1_1 : w.heap.size + 1 < w1.heap.size := by have := hb1.size; (try simp at this); omega
 have hz1_2 : w.heap.size + 1 + 1 < w1.heap.size := by have := hb1.size; (try simp at this); omega
 obtain ⟨hc1, hf1⟩ := bcell hb1
 go_wp2_with fail
 refine (moveUp_any (Wd.mk' h1 h2 hn) rfl (dist_lt h2) _).mono ?_
 rintro e w2 ⟨rfl, hb2⟩
 have hb2' := below_step (w := w) (by go_grown) hb2
 have hs2 := hb2'.size
 have hz2_0 : w.heap.size < w2.heap.size := by have := hb2.size; (try simp at this); omega
 have hz2_1 : w.heap.size + 1 < w2.heap.size := by have := hb2.size; (try simp at this); omega
 have hz2_2 : w.heap.size + 1 + 1 < w2.heap.size := by have := hb2.size; (try simp at this); omega
 obtain ⟨hc2, hf2⟩ := bcell hb2
 go_wp2_with fail
 refine bodyPost_ret (v := .agg #[.int .i64 W, .int .u64 (LO (n * 2 ^ dist m W % 2 ^ W)), .int .u64 (HI (n * 2 ^ dist m W % 2 ^ W))]) (by simp [results, Tryz.results120, go_sem, *]) rfl ?_
 exact ⟨rfl, by go_grown⟩
theorem shift_lshr {W n m : Nat} {WW lo hi WW' lo' hi' : Int} (hw : Wd WW lo hi W n) (hw' : Wd WW' lo' hi' W m) (w : World) :
  Rt 120 #[.int .i64 27, .agg #[.int .i64 WW, .int .u64 lo, .int .u64 hi], .agg #[.int .i64 WW', .int .u64 lo', .int .u64 hi']] w (.agg #[.int .i64 W, .int .u64 (LO (n / 2 ^ dist m W)), .int .u64 (HI (n / 2 ^ dist m W))]) := by
 obtain ⟨h1, h2, hn, rfl, rfl, rfl⟩ := hw
 obtain ⟨-, -, hn', rfl, rfl, rfl⟩ := hw'
 go_enter Tryz.func120, Tryz.ntmps120
 go_wp2_with fail
 refine (distance_any (Wd.mk' h1 h2 hn') _).mono ?_
 rintro e w1 ⟨rfl, hb1⟩
 have hb1' := below_step (w := w) (by go_grown) hb1
 have hs1 := hb1'.size
 have hz1_0 : w.heap.size < w1.heap.size := by have := hb1.size; (try simp at this); omega
 have hz1_1 : w.heap.size + 1 < w1.heap.size := by have := hb1.size; (try simp at this); omega
 have hz1_2 : w.heap.size + 1 + 1 < w1.heap.size := by have := hb1.size; (try simp at this); omega
 obtain ⟨hc1, hf1⟩ := bcell hb1
 go_wp2_with fail
 refine (moveDown_any (Wd.mk' h1 h2 hn) rfl (dist_lt h2) _).mono ?_
 rintro e w2 ⟨rfl, hb2⟩
 have hb2' := below_step (w := w) (by go_grown) hb2
 have hs2 := hb2'.size
 have hz2_0 : w.heap.size < w2.heap.size := by have := hb2.size; (try simp at this); omega
 have hz2_1 : w.heap.size + 1 < w2.heap.size := by have := hb2.size; (try simp at this); omega
 have hz2_2 : w.heap.size + 1 + 1 < w2.heap.size := by have := hb2.size; (try simp at this); omega
 obtain ⟨hc2, hf2⟩ := bcell hb2
 go_wp2_with fail
 refine bodyPost_ret (v := .agg #[.int .i64 W, .int .u64 (LO (n / 2 ^ dist m W)), .int .u64 (HI (n / 2 ^ dist m W))]) (by simp [results, Tryz.results120, go_sem, *]) rfl ?_
 exact ⟨rfl, by go_grown⟩
theorem shift_ashr0 {W n m : Nat} {WW lo hi WW' lo' hi' : Int} (hw : Wd WW lo hi W n) (hw' : Wd WW' lo' hi' W m) (hs : n.testBit (W - 1) = false) (w : World) :
  Rt 120 #[.int .i64 28, .agg #[.int .i64 WW, .int .u64 lo, .int .u64 hi], .agg #[.int .i64 WW', .int .u64 lo', .int .u64 hi']] w (.agg #[.int .i64 W, .int .u64 (LO (n / 2 ^ dist m W)), .int .u64 (HI (n / 2 ^ dist m W))]) := by
 obtain ⟨h1, h2, hn, rfl, rfl, rfl⟩ := hw
 obtain ⟨-, -, hn', rfl, rfl, rfl⟩ := hw'
 go_enter Tryz.func120, Tryz.ntmps120
 go_wp2_with fail
 refine (distance_any (Wd.mk' h1 h2 hn') _).mono ?_
 rintro e w1 ⟨rfl, hb1⟩
 have hb1' := below_step (w := w) (by go_grown) hb1
 have hs1 := hb1'.size
 have hz1_0 : w.heap.size < w1.heap.size := by have := hb1.size; (try simp at this); omega
 have hz1_1 : w.heap.size + 1 < w1.heap.size := by have := hb1.size; (try simp at this); omega
 have hz1_2 : w.heap.size + 1 + 1 < w1.heap.size := by have := hb1.size; (try simp at this); omega
 obtain ⟨hc1, hf1⟩ := bcell hb1
 go_wp2_with fail
 refine (isBelowZero_any (Wd.mk' h1 h2 hn) _).mono ?_
 rintro e w2 ⟨rfl, hb2⟩
 have hb2' := below_step (w := w) (by go_grown) hb2
 have hs2 := hb2'.size
 have hz2_0 : w.heap.size < w2.heap.size := by have := hb2.size; (try simp at this); omega
 have hz2_1 : w.heap.size + 1 < w2.heap.size := by have := hb2.size; (try simp at this); omega
 have hz2_2 : w.heap.size + 1 + 1 < w2.heap.size := by have := hb2.size; (try simp at this); omega
 obtain ⟨hc2, hf2⟩ := bcell hb2
 go_wp2_with fail
 refine (moveDown_any (Wd.mk' h1 h2 hn) rfl (dist_lt h2) _).mono ?_
 rintro e w3 ⟨rfl, hb3⟩
 have hb3' := below_step (w := w) (by go_grown) hb3
 have hs3 := hb3'.size
 have hz3_0 : w.heap.size < w3.heap.size := by have := hb3.size; (try simp at this); omega
 have hz3_1 : w.heap.size + 1 < w3.heap.size := by have := hb3.size; (try simp at this); omega
 have hz3_2 : w.heap.size + 1 + 1 < w3.heap.size := by have := hb3.size; (try simp at this); omega
 obtain ⟨hc3, hf3⟩ := bcell hb3
 go_wp2_with fail
 refine bodyPost_ret (v := .agg #[.int .i64 W, .int .u64 (LO (n / 2 ^ dist m W)), .int .u64 (HI (n / 2 ^ dist m W))]) (by simp [results, Tryz.results120, go_sem, *]) rfl ?_
 exact ⟨rfl, by go_grown⟩
theorem shift_ashr1 {W n m : Nat} {WW lo hi WW' lo' hi' : Int} (hw : Wd WW lo hi W n) (hw' : Wd WW' lo' hi' W m) (hs : n.testBit (W - 1) = true) (w : World) :
  Rt 120 #[.int .i64 28, .agg #[.int .i64 WW, .int .u64 lo, .int .u64 hi], .agg #[.int .i64 WW', .int .u64 lo', .int .u64 hi']] w (.agg #[.int .i64 W, .int .u64 (LO (2 ^ W - 1 - (2 ^ W - 1 - n) / 2 ^ dist m W)), .int .u64 (HI (2 ^ W - 1 - (2 ^ W - 1 - n) / 2 ^ dist m W))]) := by
 obtain ⟨h1, h2, hn, rfl, rfl, rfl⟩ := hw
 obtain ⟨-, -, hn', rfl, rfl, rfl⟩ := hw'
 go_enter Tryz.func120, Tryz.ntmps120
 go_wp2_with fail
 refine (distance_any (Wd.mk' h1 h2 hn') _).mono ?_
 rintro e w1 ⟨rfl, hb1⟩
 have hb1' := below_step (w := w) (by go_grown) hb1
 have hs1 := hb1'.size
 have hz1_0 : w.heap.size < w1.heap.size := by have := hb1.size; (try simp at this); omega
 have hz1_1 : w.heap.size + 1 < w1.heap.size := by have := hb1.size; (try simp at this); omega
 have hz1_2 : w.heap.size + 1 + 1 < w1.heap.size := by have := hb1.size; (try simp at this); omega
 obtain ⟨hc1, hf1⟩ := bcell hb1
 go_wp2_with fail
 refine (isBelowZero_any (Wd.mk' h1 h2 hn) _).mono ?_
 rintro e w2 ⟨rfl, hb2⟩
 have hb2' := below_step (w := w) (by go_grown) hb2
 have hs2 := hb2'.size
 have hz2_0 : w.heap.size < w2.heap.size := by have := hb2.size; (try simp at this); omega
 have hz2_1 : w.heap.size + 1 < w2.heap.size := by have := hb2.size; (try simp at this); omega
 have hz2_2 : w.heap.size + 1 + 1 < w2.heap.size := by have := hb2.size; (try simp at this); omega
 obtain ⟨hc2, hf2⟩ := bcell hb2
 go_wp2_with fail
 refine (turn_any (Wd.mk' h1 h2 hn) _).mono ?_
 rintro e w3 ⟨rfl, hb3⟩
 have hb3' := below_step (w := w) (by go_grown) hb3
 have hs3 := hb3'.size
 have hz3_0 : w.heap.size < w3.heap.size := by have := hb3.size; (try simp at this); omega
 have hz3_1 : w.heap.size + 1 < w3.heap.size := by have := hb3.size; (try simp at this); omega
 have hz3_2 : w.heap.size + 1 + 1 < w3.heap.size := by have := hb3.size; (try simp at this); omega
 obtain ⟨hc3, hf3⟩ := bcell hb3
 go_wp2_with fail
 refine (moveDown_any (Wd.mk' h1 h2 (turn_lt n W)) rfl (dist_lt h2) _).mono ?_
 rintro e w4 ⟨rfl, hb4⟩
 have hb4' := below_step (w := w) (by go_grown) hb4
 have hs4 := hb4'.size
 have hz4_0 : w.heap.size < w4.heap.size := by have := hb4.size; (try simp at this); omega
 have hz4_1 : w.heap.size + 1 < w4.heap.size := by have := hb4.size; (try simp at this); omega
 have hz4_2 : w.heap.size + 1 + 1 < w4.heap.size := by have := hb4.size; (try simp at this); omega
 obtain ⟨hc4, hf4⟩ := bcell hb4
 go_wp2_with fail
 refine (turn_any (Wd.mk' h1 h2 (Nat.lt_of_le_of_lt (Nat.div_le_self _ _) (turn_lt n W))) _).mono ?_
 rintro e w5 ⟨rfl, hb5⟩
 have hb5' := below_step (w := w) (by go_grown) hb5
 have hs5 := hb5'.size
 have hz5_0 : w.heap.size < w5.heap.size := by have := hb5.size; (try simp at this); omega
 have hz5_1 : w.heap.size + 1 < w5.heap.size := by have := hb5.size; (try simp at this); omega
 have hz5_2 : w.heap.size + 1 + 1 < w5.heap.size := by have := hb5.size; (try simp at this); omega
 obtain ⟨hc5, hf5⟩ := bcell hb5
 go_wp2_with fail
 refine bodyPost_ret (v := .agg #[.int .i64 W, .int .u64 (LO (2 ^ W - 1 - (2 ^ W - 1 - n) / 2 ^ dist m W)), .int .u64 (HI (2 ^ W - 1 - (2 ^ W - 1 - n) / 2 ^ dist m W))]) (by simp [results, Tryz.results120, go_sem, *]) rfl ?_
 exact ⟨rfl, by go_grown⟩
def udiv (W n m : Nat) : Nat := if m = 0 then 2 ^ W - 1 else n / m
def urem (n m : Nat) : Nat := if m = 0 then n else n % m
theorem udiv_lt {W n m : Nat} (h : n < 2 ^ W) : udiv W n m < 2 ^ W := by
 unfold udiv; have := Nat.two_pow_pos W; split
 ·omega
 ·exact Nat.lt_of_le_of_lt (Nat.div_le_self _ _) h
theorem urem_lt {W n m : Nat} (h : n < 2 ^ W) : urem n m < 2 ^ W := by
 unfold urem; split
 ·exact h
 ·exact Nat.lt_of_le_of_lt (Nat.mod_le _ _) h
theorem divide_zero {W n : Nat} {WW lo hi WW' lo' hi' : Int} (hw : Wd WW lo hi W n) (hw' : Wd WW' lo' hi' W 0) (w : World) :
  Rt 137 #[.agg #[.int .i64 WW, .int .u64 lo, .int .u64 hi], .agg #[.int .i64 WW', .int .u64 lo', .int .u64 hi']] w (.tuple #[.agg #[.int .i64 W, .int .u64 (LO (2 ^ W - 1)), .int .u64 (HI (2 ^ W - 1))], .agg #[.int .i64 W, .int .u64 (LO (n)), .int .u64 (HI (n))]]) := by
 obtain ⟨h1, h2, hn, rfl, rfl, rfl⟩ := hw
 obtain ⟨-, -, hn', rfl, rfl, rfl⟩ := hw'
 have hqe := eq_w
 have hq0 : eqB 0 0 = true := eqB_yes rfl
 have hp := Nat.two_pow_pos W
 go_enter Tryz.func137, Tryz.ntmps137
 go_wp2_with fail
 refine (cut_any (m := 0) (r := 0) h1 h2 (by decide) (Nat.zero_mod _) rfl lo0 hi0 _).mono ?_
 rintro e w1 ⟨rfl, hb1⟩
 have hb1' := below_step (w := w) (by go_grown) hb1
 have hs1 := hb1'.size
 have KF1 : W3 w1 w.heap.size W n <| F3 w1 w.heap.size <| W3 w1 (w.heap.size + 1) W 0 <| F3 w1 (w.heap.size + 1) <| S3 w1 (w.heap.size + 1 + 1) <| F3 w1 (w.heap.size + 1 + 1) <| S3 w1 (w.heap.size + 1 + 1 + 1) <| F3 w1 (w.heap.size + 1 + 1 + 1) <| True := (by refine k3 hb1 ?_ ?_ ?_ <| f3 hb1 ?_ ?_ <| k3 hb1 ?_ ?_ ?_ <| f3 hb1 ?_ ?_ <| s3 hb1 ?_ ?_ ?_ <| f3 hb1 ?_ ?_ <| s3 hb1 ?_ ?_ ?_ <| f3 hb1 ?_ ?_ <| trivial <;> (first | (simp [go_sem]; done))); have KF1z0 := zT KF1; have KF1z1 := zT KF1.2.2.2.2; have KF1z2 := zT KF1.2.2.2.2.2.2.2.2; have KF1z3 := zT KF1.2.2.2.2.2.2.2.2.2.2.2.2
 clear hb1
 go_wp2_with fail
 go_region_with ((first | (go_at_call 109; refine (turn_any (Wd.mk' h1 h2 hp) _).mono ?_; rintro e wq ⟨rfl, hb⟩; have hb' := below_step (w := w) (by go_grown) hb; have hs := hb'.size; have KFr : W3 wq w.heap.size W n <| F3 wq w.heap.size <| W3 wq (w.heap.size + 1) W 0 <| F3 wq (w.heap.size + 1) <| S3 wq (w.heap.size + 1 + 1) <| F3 wq (w.heap.size + 1 + 1) <| S3 wq (w.heap.size + 1 + 1 + 1) <| F3 wq (w.heap.size + 1 + 1 + 1) <| W3 wq w1.heap.size W 0 <| (∀ o, wq.frozen? ⟨w1.heap.size, o, none⟩ = false) := (by refine k3 hb ?_ ?_ ?_ <| f3 hb ?_ ?_ <| k3 hb ?_ ?_ ?_ <| f3 hb ?_ ?_ <| s3 hb ?_ ?_ ?_ <| f3 hb ?_ ?_ <| s3 hb ?_ ?_ ?_ <| f3 hb ?_ ?_ <| k3 hb ?_ ?_ ?_ <| keep_frozen2 hb ?_ ?_ <;> (first | (simp [go_sem]; done) | (simp [go_sem, KFr]; done) | (simp [go_sem, KF1]; done) | (simp [go_sem, KFr, World.cell?_alloc_some]; done) | (simp [go_sem, KF1, World.cell?_alloc_some]; done) | (simp [go_sem, KFr, frozen?_alloc_cells]; done) | (simp [go_sem, KF1, frozen?_alloc_cells]; done))); have KFrz0 : w.heap.size < wq.heap.size := World.block_lt_of_cell? _ _ KFr.1; have KFrz1 : w.heap.size + 1 < wq.heap.size := World.block_lt_of_cell? _ _ KFr.2.2.2.2.1; have KFrz2 : w.heap.size + 1 + 1 < wq.heap.size := World.block_lt_of_cell? _ _ KFr.2.2.2.2.2.2.2.2.1; have KFrz3 : w.heap.size + 1 + 1 + 1 < wq.heap.size := World.block_lt_of_cell? _ _ KFr.2.2.2.2.2.2.2.2.2.2.2.2.1; have KFrz4 : w1.heap.size < wq.heap.size := World.block_lt_of_cell? _ _ KFr.2.2.2.2.2.2.2.2.2.2.2.2.2.2.2.2.1; clear hb)))
 all_goals
  go_wp2_with fail
  refine bodyPost_ret (v := .tuple #[.agg #[.int .i64 W, .int .u64 (LO (2 ^ W - 1)), .int .u64 (HI (2 ^ W - 1))], .agg #[.int .i64 W, .int .u64 (LO (n)), .int .u64 (HI (n))]]) (by simp [results, Tryz.results137, go_sem, KFr]) rfl ?_
  exact ⟨rfl, by go_grown⟩
theorem divide_full {W n m : Nat} {WW lo hi WW' lo' hi' : Int} (hw : Wd WW lo hi W n) (hw' : Wd WW' lo' hi' W m) (w : World) :
  Rt 137 #[.agg #[.int .i64 WW, .int .u64 lo, .int .u64 hi], .agg #[.int .i64 WW', .int .u64 lo', .int .u64 hi']] w (.tuple #[.agg #[.int .i64 W, .int .u64 (LO (udiv W n m)), .int .u64 (HI (udiv W n m))], .agg #[.int .i64 W, .int .u64 (LO (urem n m)), .int .u64 (HI (urem n m))]]) := by
 by_cases h : m = 0
 ·subst h
  refine (divide_zero hw hw' w).mono ?_
  rintro e w1 ⟨rfl, hb⟩
  exact ⟨by simp [udiv, urem], hb⟩
 ·refine (divide_any hw hw' (by omega) w).mono ?_
  rintro e w1 ⟨rfl, hb⟩
  exact ⟨by simp [udiv, urem, h], hb⟩
theorem unsigned_div {W n m : Nat} {WW lo hi WW' lo' hi' : Int} (hw : Wd WW lo hi W n) (hw' : Wd WW' lo' hi' W m) (w : World) :
  Rt 118 #[.int .i64 21, .agg #[.int .i64 WW, .int .u64 lo, .int .u64 hi], .agg #[.int .i64 WW', .int .u64 lo', .int .u64 hi']] w (.agg #[.int .i64 W, .int .u64 (LO (udiv W n m)), .int .u64 (HI (udiv W n m))]) := by
 obtain ⟨h1, h2, hn, rfl, rfl, rfl⟩ := hw
 obtain ⟨-, -, hn', rfl, rfl, rfl⟩ := hw'
 go_enter Tryz.func118, Tryz.ntmps118
 go_wp2_with fail
 refine (divide_full (Wd.mk' h1 h2 hn) (Wd.mk' h1 h2 hn') _).mono ?_
 rintro e w1 ⟨rfl, hb1⟩
 have hb1' := below_step (w := w) (by go_grown) hb1
 have hs1 := hb1'.size
 have KF1 : W3 w1 w.heap.size W n <| F3 w1 w.heap.size <| W3 w1 (w.heap.size + 1) W m <| F3 w1 (w.heap.size + 1) <| S3 w1 (w.heap.size + 1 + 1) <| F3 w1 (w.heap.size + 1 + 1) <| True := (by refine k3 hb1 ?_ ?_ ?_ <| f3 hb1 ?_ ?_ <| k3 hb1 ?_ ?_ ?_ <| f3 hb1 ?_ ?_ <| s3 hb1 ?_ ?_ ?_ <| f3 hb1 ?_ ?_ <| trivial <;> (first | (simp [go_sem]; done))); have KF1z0 := zT KF1; have KF1z1 := zT KF1.2.2.2.2; have KF1z2 := zT KF1.2.2.2.2.2.2.2.2
 clear hb1
 go_wp2_with fail
 refine bodyPost_ret (v := .agg #[.int .i64 W, .int .u64 (LO (udiv W n m)), .int .u64 (HI (udiv W n m))]) (by simp [results, Tryz.results118, go_sem, *]) rfl ?_
 exact ⟨rfl, by go_grown⟩
theorem unsigned_rem {W n m : Nat} {WW lo hi WW' lo' hi' : Int} (hw : Wd WW lo hi W n) (hw' : Wd WW' lo' hi' W m) (w : World) :
  Rt 118 #[.int .i64 22, .agg #[.int .i64 WW, .int .u64 lo, .int .u64 hi], .agg #[.int .i64 WW', .int .u64 lo', .int .u64 hi']] w (.agg #[.int .i64 W, .int .u64 (LO (urem n m)), .int .u64 (HI (urem n m))]) := by
 obtain ⟨h1, h2, hn, rfl, rfl, rfl⟩ := hw
 obtain ⟨-, -, hn', rfl, rfl, rfl⟩ := hw'
 go_enter Tryz.func118, Tryz.ntmps118
 go_wp2_with fail
 refine (divide_full (Wd.mk' h1 h2 hn) (Wd.mk' h1 h2 hn') _).mono ?_
 rintro e w1 ⟨rfl, hb1⟩
 have hb1' := below_step (w := w) (by go_grown) hb1
 have hs1 := hb1'.size
 have KF1 : W3 w1 w.heap.size W n <| F3 w1 w.heap.size <| W3 w1 (w.heap.size + 1) W m <| F3 w1 (w.heap.size + 1) <| S3 w1 (w.heap.size + 1 + 1) <| F3 w1 (w.heap.size + 1 + 1) <| True := (by refine k3 hb1 ?_ ?_ ?_ <| f3 hb1 ?_ ?_ <| k3 hb1 ?_ ?_ ?_ <| f3 hb1 ?_ ?_ <| s3 hb1 ?_ ?_ ?_ <| f3 hb1 ?_ ?_ <| trivial <;> (first | (simp [go_sem]; done))); have KF1z0 := zT KF1; have KF1z1 := zT KF1.2.2.2.2; have KF1z2 := zT KF1.2.2.2.2.2.2.2.2
 clear hb1
 go_wp2_with fail
 refine bodyPost_ret (v := .agg #[.int .i64 W, .int .u64 (LO (urem n m)), .int .u64 (HI (urem n m))]) (by simp [results, Tryz.results118, go_sem, *]) rfl ?_
 exact ⟨rfl, by go_grown⟩
end Go.Proofs.YtejljdbkocnhlaaGreat
