import Derived.Test.YtedldoobmmhloaaA
import Derived.Shelf.Bits.Mul64
import Derived.Shelf.Spec.BitsCarry
import Derived.Test.YtedldoobmmhloaaMath
namespace Go.Proofs.Ytedldoobmmhloaa
set_option maxHeartbeats 12800000
set_option maxRecDepth 100000
open Go.RowKit
set_option linter.unusedSimpArgs false
set_option linter.unusedVariables false
theorem turn_any {W n : Nat} {WW lo hi : Int} (hw : Wd WW lo hi W n) (w : World) :
  Calls Try.prog 80 #[.agg #[.int .i64 WW, .int .u64 lo, .int .u64 hi]] w fun e w' => e = .returned (.agg #[.int .i64 W, .int .u64 (LO (2 ^ W - 1 - n)), .int .u64 (HI (2 ^ W - 1 - n))]) ∧ Below w.heap.size w w' := by
 have hbig := hw.big
 obtain ⟨h1, h2, hn, rfl, rfl, rfl⟩ := hw
 go_enter Try.func80, Try.ntmps80
 go_wp2_with fail
 refine (cut_any (m := 2 ^ 128 - 1 - n) (r := 2 ^ W - 1 - n) h1 h2 (by omega) (turn_mod h2 hn) rfl (turn_lo hbig) (turn_hi hbig) _).mono ?_
 rintro e w1 ⟨rfl, hb1⟩
 have hb1' := below_step (w := w) (by go_grown) hb1
 have hs1 := hb1'.size
 have hz1_0 : w.heap.size < w1.heap.size := by have := hb1.size; (try simp at this); omega
 have hz1_1 : w.heap.size + 1 < w1.heap.size := by have := hb1.size; (try simp at this); omega
 obtain ⟨hc1, hf1⟩ := bcell hb1
 go_wp2_with fail
 refine bodyPost_ret (v := .agg #[.int .i64 W, .int .u64 (LO (2 ^ W - 1 - n)), .int .u64 (HI (2 ^ W - 1 - n))]) (by simp [results, Try.results80, go_sem, *]) rfl ?_
 exact ⟨rfl, by go_grown⟩
theorem add64 (n m : Nat) (w : World) :
  (callFunc 104 #[.int .u64 (LO n), .int .u64 (LO m), .int .u64 0]).run Try.prog w =
   .ok (.value (.tuple #[.int .u64 ((LO n + LO m) % 18446744073709551616), .int .u64 ((LO n + LO m) / 18446744073709551616)])) w := by
 rw [run_callFunc_extern Try.func104 (by kernel_rfl) (by kernel_rfl) (by kernel_rfl) (e := add64Entry) (by kernel_rfl), run_add64 _ _ 0 (by unfold LO; omega) (by unfold LO; omega) (by omega) (by omega)]
 simp only [Result.andThen, Int.add_zero]
theorem add_any {W n m : Nat} {WW lo hi WW' lo' hi' : Int} (hw : Wd WW lo hi W n) (hw' : Wd WW' lo' hi' W m) (w : World) :
  Calls Try.prog 95 #[.agg #[.int .i64 WW, .int .u64 lo, .int .u64 hi], .agg #[.int .i64 WW', .int .u64 lo', .int .u64 hi']] w fun e w' => e = .returned (.agg #[.int .i64 W, .int .u64 (LO ((n + m) % 2 ^ W)), .int .u64 (HI ((n + m) % 2 ^ W))]) ∧ Below w.heap.size w w' := by
 obtain ⟨h1, h2, hn, rfl, rfl, rfl⟩ := hw
 obtain ⟨-, -, hn', rfl, rfl, rfl⟩ := hw'
 have ha := add64 n m
 go_enter Try.func95, Try.ntmps95
 go_wp2_with fail
 refine (cut_any (m := (n + m) % 2 ^ 128) (r := (n + m) % 2 ^ W) h1 h2 (Nat.mod_lt _ (by decide)) (mod_128 h2) rfl (add_lo n m) (add_hi n m) _).mono ?_
 rintro e w1 ⟨rfl, hb1⟩
 have hb1' := below_step (w := w) (by go_grown) hb1
 have hs1 := hb1'.size
 have hz1_0 : w.heap.size < w1.heap.size := by have := hb1.size; (try simp at this); omega
 have hz1_1 : w.heap.size + 1 < w1.heap.size := by have := hb1.size; (try simp at this); omega
 have hz1_2 : w.heap.size + 1 + 1 < w1.heap.size := by have := hb1.size; (try simp at this); omega
 obtain ⟨hc1, hf1⟩ := bcell hb1
 go_wp2_with fail
 refine bodyPost_ret (v := .agg #[.int .i64 W, .int .u64 (LO ((n + m) % 2 ^ W)), .int .u64 (HI ((n + m) % 2 ^ W))]) (by simp [results, Try.results95, go_sem, *]) rfl ?_
 exact ⟨rfl, by go_grown⟩
theorem sub64 (n m : Nat) (w : World) :
  (callFunc 103 #[.int .u64 (LO n), .int .u64 (LO m), .int .u64 0]).run Try.prog w =
   .ok (.value (.tuple #[.int .u64 ((LO n + 18446744073709551616 - LO m) % 18446744073709551616), .int .u64 (bor (LO n) (LO m))])) w := by
 have e1 : LO n = ((n % 2 ^ 64 : Nat) : Int) := rfl
 have e2 : LO m = ((m % 2 ^ 64 : Nat) : Int) := rfl
 rw [e1, e2, show (0 : Int) = ((0 : Nat) : Int) from rfl, run_callFunc_extern Try.func103 (by kernel_rfl) (by kernel_rfl) (by kernel_rfl) (e := sub64Entry) (by kernel_rfl), run_sub64 (n % 2 ^ 64) (m % 2 ^ 64) 0 (by omega)]
 have hx := lo_lt n
 have hy := lo_lt m
 clear e1 e2
 generalize n % 2 ^ 64 = x at *
 generalize m % 2 ^ 64 = y at *
 simp only [Result.andThen]
 have e3 : (((x + 18446744073709551616 - y - 0) % 18446744073709551616 : Nat) : Int) = ((x : Int) + 18446744073709551616 - y) % 18446744073709551616 := by omega
 have e4 : ((if x < y + 0 then 1 else 0 : Nat) : Int) = bor x y := by
  unfold bor
  by_cases hlt : x < y
  ·rw [if_pos (by omega), if_pos (by omega)]; rfl
  ·rw [if_neg (by omega), if_neg (by omega)]; rfl
 rw [e3, e4]
theorem subtract_any {W n m : Nat} {WW lo hi WW' lo' hi' : Int} (hw : Wd WW lo hi W n) (hw' : Wd WW' lo' hi' W m) (w : World) :
  Calls Try.prog 93 #[.agg #[.int .i64 WW, .int .u64 lo, .int .u64 hi], .agg #[.int .i64 WW', .int .u64 lo', .int .u64 hi']] w fun e w' => e = .returned (.agg #[.int .i64 W, .int .u64 (LO ((n + (2 ^ W - m)) % 2 ^ W)), .int .u64 (HI ((n + (2 ^ W - m)) % 2 ^ W))]) ∧ Below w.heap.size w w' := by
 have hbig' := hw'.big
 obtain ⟨h1, h2, hn, rfl, rfl, rfl⟩ := hw
 obtain ⟨-, -, hn', rfl, rfl, rfl⟩ := hw'
 have ha := sub64 n m
 go_enter Try.func93, Try.ntmps93
 go_wp2_with fail
 refine (cut_any (m := (n + (2 ^ 128 - m)) % 2 ^ 128) (r := (n + (2 ^ W - m)) % 2 ^ W) h1 h2 (Nat.mod_lt _ (by decide)) (sub_mod h2 hn') rfl (sub_lo hbig') (sub_hi hbig') _).mono ?_
 rintro e w1 ⟨rfl, hb1⟩
 have hb1' := below_step (w := w) (by go_grown) hb1
 have hs1 := hb1'.size
 have hz1_0 : w.heap.size < w1.heap.size := by have := hb1.size; (try simp at this); omega
 have hz1_1 : w.heap.size + 1 < w1.heap.size := by have := hb1.size; (try simp at this); omega
 have hz1_2 : w.heap.size + 1 + 1 < w1.heap.size := by have := hb1.size; (try simp at this); omega
 obtain ⟨hc1, hf1⟩ := bcell hb1
 go_wp2_with fail
 refine bodyPost_ret (v := .agg #[.int .i64 W, .int .u64 (LO ((n + (2 ^ W - m)) % 2 ^ W)), .int .u64 (HI ((n + (2 ^ W - m)) % 2 ^ W))]) (by simp [results, Try.results93, go_sem, *]) rfl ?_
 exact ⟨rfl, by go_grown⟩
theorem mul64_any (x y : Nat) (hx : x < 18446744073709551616) (hy : y < 18446744073709551616) (w : World) :
  Calls Try.prog 105 #[.int .u64 x, .int .u64 y] w fun e w' => e = .returned (.tuple #[.int .u64 ((x * y / 18446744073709551616 : Nat) : Int), .int .u64 ((x * y % 18446744073709551616 : Nat) : Int)]) ∧ w' = w := by
 obtain ⟨bd, bt, bw, hhi⟩ := Lib.mul64_hi x y hx hy
 have ba := Lib.half_mul_le (a := x / 4294967296) (b := y / 4294967296) (by omega) (by omega)
 have bb := Lib.half_mul_le (a := x / 4294967296) (b := y % 4294967296) (by omega) (by omega)
 have bc := Lib.half_mul_le (a := x % 4294967296) (b := y / 4294967296) (by omega) (by omega)
 have ba' : x / 4294967296 * (y / 4294967296) < 18446744073709551616 := by omega
 have bb' : x / 4294967296 * (y % 4294967296) < 18446744073709551616 := by omega
 have bc' : x % 4294967296 * (y / 4294967296) < 18446744073709551616 := by omega
 have bh1 : x / 4294967296 * (y / 4294967296) + (x / 4294967296 * (y % 4294967296) + x % 4294967296 * (y % 4294967296) / 4294967296) / 4294967296 < 18446744073709551616 := by omega
 have bh : x / 4294967296 * (y / 4294967296) + (x / 4294967296 * (y % 4294967296) + x % 4294967296 * (y % 4294967296) / 4294967296) / 4294967296 + ((x / 4294967296 * (y % 4294967296) + x % 4294967296 * (y % 4294967296) / 4294967296) % 4294967296 + x % 4294967296 * (y / 4294967296)) / 4294967296 < 18446744073709551616 := by omega
 go_enter Try.func105, Try.ntmps105
 go_wp2
 simp only [Mul64.maskN x hx, Mul64.maskN y hy, Mul64.divN, Mul64.mulN, Mul64.addN, Mul64.wrapN _ bd, Mul64.wrapN _ bb', Mul64.wrapN _ bt, Mul64.maskN _ bt, Mul64.wrapN _ bc', Mul64.wrapN _ bw, Mul64.wrapN _ ba', Mul64.wrapN _ bh1, Mul64.wrapN _ bh, Mul64.wrapM (x * y)]
 rw [hhi]
 go_ret2
 exact ⟨rfl, rfl⟩
theorem mul64_w (n m : Nat) (w : World) :
 Calls Try.prog 105 #[.int .u64 (LO n), .int .u64 (LO m)] w fun e w' => e = .returned (.tuple #[.int .u64 (mulH n m), .int .u64 (mulL n m)]) ∧ w' = w := mul64_any _ _ (lo_lt n) (lo_lt m) w
theorem multiply_any {W n m : Nat} {WW lo hi WW' lo' hi' : Int} (hw : Wd WW lo hi W n) (hw' : Wd WW' lo' hi' W m) (w : World) :
  Calls Try.prog 96 #[.agg #[.int .i64 WW, .int .u64 lo, .int .u64 hi], .agg #[.int .i64 WW', .int .u64 lo', .int .u64 hi']] w fun e w' => e = .returned (.agg #[.int .i64 W, .int .u64 (LO (n * m % 2 ^ W)), .int .u64 (HI (n * m % 2 ^ W))]) ∧ Below w.heap.size w w' := by
 obtain ⟨h1, h2, hn, rfl, rfl, rfl⟩ := hw
 obtain ⟨-, -, hn', rfl, rfl, rfl⟩ := hw'
 go_enter Try.func96, Try.ntmps96
 go_wp2_with fail
 refine (mul64_w _ _ _).mono ?_
 rintro e w0 ⟨rfl, rfl⟩
 go_wp2_with fail
 refine (cut_any (m := n * m % 2 ^ 128) (r := n * m % 2 ^ W) h1 h2 (Nat.mod_lt _ (by decide)) (mod_128 h2) rfl (mul_lo n m) (mul_hi n m) _).mono ?_
 rintro e w1 ⟨rfl, hb1⟩
 have hb1' := below_step (w := w) (by go_grown) hb1
 have hs1 := hb1'.size
 have hz1_0 : w.heap.size < w1.heap.size := by have := hb1.size; (try simp at this); omega
 have hz1_1 : w.heap.size + 1 < w1.heap.size := by have := hb1.size; (try simp at this); omega
 have hz1_2 : w.heap.size + 1 + 1 < w1.heap.size := by have := hb1.size; (try simp at this); omega
 obtain ⟨hc1, hf1⟩ := bcell hb1
 go_wp2_with fail
 refine bodyPost_ret (v := .agg #[.int .i64 W, .int .u64 (LO (n * m % 2 ^ W)), .int .u64 (HI (n * m % 2 ^ W))]) (by simp [results, Try.results96, go_sem, *]) rfl ?_
 exact ⟨rfl, by go_grown⟩
theorem negate_any {W n : Nat} {WW lo hi : Int} (hw : Wd WW lo hi W n) (w : World) :
  Calls Try.prog 81 #[.agg #[.int .i64 WW, .int .u64 lo, .int .u64 hi]] w fun e w' => e = .returned (.agg #[.int .i64 W, .int .u64 (LO (neg W n)), .int .u64 (HI (neg W n))]) ∧ Below w.heap.size w w' := by
 obtain ⟨h1, h2, hn, rfl, rfl, rfl⟩ := hw
 go_enter Try.func81, Try.ntmps81
 go_wp2_with fail
 go_region_held3 (fun x => x.cell? ⟨w.heap.size, 0, none⟩ = some (.int .i64 W) ∧ x.cell? ⟨w.heap.size, 1, none⟩ = some (.int .u64 (LO (n))) ∧ x.cell? ⟨w.heap.size, 2, none⟩ = some (.int .u64 (HI (n))) ∧ x.cell? ⟨w.heap.size + 1, 0, none⟩ = some (cv x ⟨w.heap.size + 1, 0, none⟩) ∧ x.cell? ⟨w.heap.size + 1, 1, none⟩ = some (cv x ⟨w.heap.size + 1, 1, none⟩) ∧ x.cell? ⟨w.heap.size + 1, 2, none⟩ = some (cv x ⟨w.heap.size + 1, 2, none⟩) ∧ (∀ o, x.frozen? ⟨w.heap.size + 1, o, none⟩ = false) ∧ Below w.heap.size w x)
  ((first | (obtain ⟨q0, q1, q2, q3, q4, q5, q6, q7⟩ := ‹_ ∧ _ ∧ _ ∧ _ ∧ _ ∧ _ ∧ _ ∧ _›; with_reducible exact ⟨keep_cell hb q0, keep_cell hb q1, keep_cell hb q2, cv_of (keep_cell hb q3), cv_of (keep_cell hb q4), cv_of (keep_cell hb q5), keep_frozen hb q3 q6, below_step q7 hb⟩) | (obtain ⟨q0, q1, q2, q3, q4, q5, q6, q7⟩ := ‹_ ∧ _ ∧ _ ∧ _ ∧ _ ∧ _ ∧ _ ∧ _›; with_reducible exact ⟨put_cell (by omega) q0, put_cell (by omega) q1, put_cell (by omega) q2, put_own0 q3, put_own1 q4, put_own2 q5, put_frozen q6, put_below q7 (by omega)⟩) | (refine ⟨?_, ?_, ?_, ?_, ?_, ?_, ?_, ?_⟩ <;> first | (simp [go_sem]; done) | (refine cv_some ?_; simp [go_sem]; done) | go_grown)))
  ((first | (go_at_call 34; refine (cut_any (m := 0) (r := 0) h1 h2 (by decide) (Nat.zero_mod _) rfl lo0 hi0 _).mono ?_; rintro e w1 ⟨rfl, hb⟩) | (go_at_call 93; refine (subtract_any (Wd.mk' h1 h2 (Nat.two_pow_pos W)) (Wd.mk' h1 h2 hn) _).mono ?_; rintro e w1 ⟨rfl, hb⟩)))
 obtain ⟨hq1_0, hq1_1, hq1_2, hR3, hR4, hR5, -, hBq1⟩ := ‹_ ∧ _ ∧ _ ∧ _ ∧ _ ∧ _ ∧ _ ∧ _›
 have HR3 : Hid _ := hR3
 clear hR3
 have HR4 : Hid _ := hR4
 clear hR4
 have HR5 : Hid _ := hR5
 clear hR5
 go_wp2_with fail
 refine bodyPost_ret (ret_bits rfl rfl (got0 HR3.out) (got1 HR4.out) (got2 HR5.out)) rfl ?_
 exact ⟨rfl, by go_grown⟩
theorem ret_bool {a b : Bool} (h : a = b) : Ending.returned (.bool a) = .returned (.bool b) := by rw [h]
theorem isBelow_any {W n m : Nat} {WW lo hi WW' lo' hi' : Int} (hw : Wd WW lo hi W n) (hw' : Wd WW' lo' hi' W m) (w : World) :
  Calls Try.prog 102 #[.agg #[.int .i64 WW, .int .u64 lo, .int .u64 hi], .agg #[.int .i64 WW', .int .u64 lo', .int .u64 hi']] w fun e w' => e = .returned (.bool (ltB n m)) ∧ Below w.heap.size w w' := by
 obtain ⟨h1, h2, hn, rfl, rfl, rfl⟩ := hw
 obtain ⟨-, -, hn', rfl, rfl, rfl⟩ := hw'
 by_cases h : HI n = HI m
 ·have hl := lt_lo h
  have hq : (HI n != HI m) = false := by simp [h]
  have HL : Hid _ := hl
  clear h hl
  go_enter Try.func102, Try.ntmps102
  go_wp2_with fail
  go_ret
  exact ⟨ret_bool HL.out, by go_grown⟩
 ·have hl := lt_hi h
  have hq : (HI n != HI m) = true := by simp [h]
  have HL : Hid _ := hl
  clear h hl
  go_enter Try.func102, Try.ntmps102
  go_wp2_with fail
  go_ret
  exact ⟨ret_bool HL.out, by go_grown⟩
theorem field_lo (a b c : Int) (w : World) : (Instr.field 25 (.agg #[.int .i64 a, .int .u64 b, .int .u64 c]) 1).run Try.prog w = .ok (.int .u64 b) w := by kernel_rfl
theorem bitAt_any {W n i : Nat} {WW lo hi ii : Int} (hw : Wd WW lo hi W n) (hi1 : ii = i) (hi2 : i < 2 ^ 62) (w : World) :
  Calls Try.prog 94 #[.agg #[.int .i64 WW, .int .u64 lo, .int .u64 hi], .int .i64 ii] w fun e w' => e = .returned (.bool (n.testBit i)) ∧ Below w.heap.size w w' := by
 obtain ⟨h1, h2, hn, rfl, rfl, rfl⟩ := hw
 subst hi1
 go_enter Try.func94, Try.ntmps94
 go_wp2_with fail
 refine (moveDown_any (Wd.mk' h1 h2 hn) rfl hi2 _).mono ?_
 rintro e w1 ⟨rfl, hb1⟩
 have hb1' := below_step (w := w) (by go_grown) hb1
 have hs1 := hb1'.size
 have hz1_0 : w.heap.size < w1.heap.size := by have := hb1.size; (try simp at this); omega
 obtain ⟨hc1, hf1⟩ := bcell hb1
 have hfl := field_lo
 go_wp2_with fail
 go_ret
 exact ⟨ret_bool (bit_at n i), by go_grown⟩
theorem isBelowZero_any {W n : Nat} {WW lo hi : Int} (hw : Wd WW lo hi W n) (w : World) :
  Calls Try.prog 84 #[.agg #[.int .i64 WW, .int .u64 lo, .int .u64 hi]] w fun e w' => e = .returned (.bool (n.testBit (W - 1))) ∧ Below w.heap.size w w' := by
 obtain ⟨h1, h2, hn, rfl, rfl, rfl⟩ := hw
 go_enter Try.func84, Try.ntmps84
 go_wp2_with fail
 refine (bitAt_any (i := W - 1) (Wd.mk' h1 h2 hn) (by omega) (by omega) _).mono ?_
 rintro e w1 ⟨rfl, hb1⟩
 have hb1' := below_step (w := w) (by go_grown) hb1
 have hs1 := hb1'.size
 have hz1_0 : w.heap.size < w1.heap.size := by have := hb1.size; (try simp at this); omega
 obtain ⟨hc1, hf1⟩ := bcell hb1
 go_wp2_with fail
 go_ret
 exact ⟨rfl, by go_grown⟩
theorem bool_any (b : Bool) (w : World) :
  Calls Try.prog 33 #[.bool b] w fun e w' => e = .returned (.agg #[.int .i64 0, .int .u64 (if b then 1 else 0), .int .u64 0]) ∧ Below w.heap.size w w' := by
 cases b
 ·go_enter Try.func33, Try.ntmps33
  go_wp2_with fail
  refine bodyPost_ret (v := .agg #[.int .i64 0, .int .u64 0, .int .u64 0]) (by simp [results, Try.results33, go_sem]) rfl ?_
  exact ⟨rfl, by go_grown⟩
 ·go_enter Try.func33, Try.ntmps33
  go_wp2_with fail
  refine bodyPost_ret (v := .agg #[.int .i64 0, .int .u64 1, .int .u64 0]) (by simp [results, Try.results33, go_sem]) rfl ?_
  exact ⟨rfl, by go_grown⟩
theorem right_any {W n : Nat} {WW lo hi : Int} (hw : Wd WW lo hi W n) (w : World) :
  Calls Try.prog 22 #[.agg #[.int .i64 WW, .int .u64 lo, .int .u64 hi]] w fun e w' => e = .returned (.bool true) ∧ Below w.heap.size w w' := by
 have hbig := hw.big
 obtain ⟨h1, h2, hn, rfl, rfl, rfl⟩ := hw
 have hd : decide ((W : Int) < 0) = false := by simp only [decide_eq_false_iff_not]; omega
 have hd2 : decide ((128 : Int) < W) = false := by simp only [decide_eq_false_iff_not]; omega
 have hd3 : ((W : Int) == 0) = false := by simp; omega
 go_enter Try.func22, Try.ntmps22
 go_wp2_with fail
 go_region_held3 (fun x => x.cell? ⟨w.heap.size, 0, none⟩ = some (.int .i64 W) ∧ x.cell? ⟨w.heap.size, 1, none⟩ = some (.int .u64 (LO (n))) ∧ x.cell? ⟨w.heap.size, 2, none⟩ = some (.int .u64 (HI (n))) ∧ Below w.heap.size w x)
  ((first | (obtain ⟨q0, q1, q2, q3⟩ := ‹_ ∧ _ ∧ _ ∧ _›; with_reducible exact ⟨keep_cell hb q0, keep_cell hb q1, keep_cell hb q2, below_step q3 hb⟩) | (refine ⟨?_, ?_, ?_, ?_⟩ <;> first | (simp [go_sem]; done) | (refine cv_some ?_; simp [go_sem]; done) | go_grown)))
  ((first | (go_at_call 34; refine (cut_any (m := n) (r := n) h1 h2 hbig (Nat.mod_eq_of_lt hn) rfl rfl rfl _).mono ?_; rintro e w1 ⟨rfl, hb⟩)))
 obtain ⟨hq2_0, hq2_1, hq2_2, hBq2⟩ := ‹_ ∧ _ ∧ _ ∧ _›
 go_wp2_with fail
 go_ret
 exact ⟨rfl, by go_grown⟩
theorem isWord_any {W n : Nat} {WW lo hi : Int} (hw : Wd WW lo hi W n) (w : World) :
  Calls Try.prog 79 #[.agg #[.int .i64 WW, .int .u64 lo, .int .u64 hi]] w fun e w' => e = .returned (.bool true) ∧ Below w.heap.size w w' := by
 obtain ⟨h1, h2, hn, rfl, rfl, rfl⟩ := hw
 have hd3 : ((W : Int) != 0) = true := by simp; omega
 go_enter Try.func79, Try.ntmps79
 go_wp2_with fail
 refine (right_any (Wd.mk' h1 h2 hn) _).mono ?_
 rintro e w1 ⟨rfl, hb1⟩
 have hb1' := below_step (w := w) (by go_grown) hb1
 have hs1 := hb1'.size
 have hz1_0 : w.heap.size < w1.heap.size := by have := hb1.size; (try simp at this); omega
 obtain ⟨hc1, hf1⟩ := bcell hb1
 go_wp2_with fail
 go_ret
 exact ⟨rfl, by go_grown⟩
end Go.Proofs.Ytedldoobmmhloaa
namespace Go.Proofs.Ytedldoobmmhloaa
set_option maxHeartbeats 12800000
set_option maxRecDepth 100000
set_option linter.unusedSimpArgs false
set_option linter.unusedVariables false
theorem bit_lo {n k : Nat} (h : k < 64) : (bits .and .u64 (LO n / 2 ^ k) 1 == 1) = n.testBit k := by
 have e : LO n / 2 ^ k = LO (n % 2 ^ 64 / 2 ^ k) := by
  unfold LO; rw [div_cast]; congr 1
  exact (Nat.mod_eq_of_lt (Nat.lt_of_le_of_lt (Nat.div_le_self _ _) (Nat.mod_lt _ (by decide)))).symm
 rw [e, bit_of, Nat.testBit_div_two_pow, Nat.testBit_mod_two_pow]; simp [h]
theorem bit_hi {n k : Nat} (hn : n < 2 ^ 128) (h : 64 ≤ k) : (bits .and .u64 (HI n / 2 ^ (k - 64)) 1 == 1) = n.testBit k := by
 have e : HI n / 2 ^ (k - 64) = LO (n / 2 ^ 64 / 2 ^ (k - 64)) := by
  unfold LO HI; rw [div_cast]; congr 1
  exact (Nat.mod_eq_of_lt (Nat.lt_of_le_of_lt (Nat.div_le_self _ _) (hi_lt hn))).symm
 rw [e, bit_of, Nat.testBit_div_two_pow, Nat.testBit_div_two_pow]
 congr 1; omega
theorem mod_succ_bit (n k : Nat) : n % 2 ^ (k + 1) = n % 2 ^ k + if n.testBit k then 2 ^ k else 0 := by
 rw [Nat.testBit_eq_decide_div_mod_eq, Nat.pow_succ, Nat.mod_mul]
 by_cases h : n / 2 ^ k % 2 = 1
 ·simp [h]
 ·have h0 : n / 2 ^ k % 2 = 0 := by omega
  simp [h0]
theorem add_or {x k : Nat} (h : x < 2 ^ k) : x + 2 ^ k = x ||| 2 ^ k := by
 have := Nat.two_pow_add_eq_or_of_lt h 1
 rw [Nat.mul_one] at this
 rw [Nat.add_comm, this, Nat.or_comm]
theorem word_no {n k : Nat} (h : n.testBit k = false) : n % 2 ^ (k + 1) = n % 2 ^ k := by rw [mod_succ_bit]; simp [h]
theorem word_yes {n k : Nat} (h : n.testBit k = true) : n % 2 ^ (k + 1) = n % 2 ^ k ||| 2 ^ k := by
 rw [mod_succ_bit, ← add_or (Nat.mod_lt _ (Nat.two_pow_pos k))]; simp [h]
theorem lo_pow {k : Nat} (h : k < 64) : LO (2 ^ k) = (2 : Int) ^ k := by
 unfold LO
 rw [Nat.mod_eq_of_lt (Nat.pow_lt_pow_right (by decide) h)]; simp
theorem hi_pow' {k : Nat} (h : 64 ≤ k) : HI (2 ^ k) = (2 : Int) ^ (k - 64) := by
 unfold HI
 rw [Nat.pow_div h (by decide)]; simp
theorem or_lo {n k : Nat} (h : k < 64) (hb : n.testBit k = true) : bits .or .u64 (LO (n % 2 ^ k)) (IntKind.u64.wrap (2 ^ k)) = LO (n % 2 ^ (k + 1)) := by
 rw [word_yes hb, ← lo_or, lo_pow h]
 congr 1
 rw [IntKind.wrap_u64]
 have h3 := Nat.two_pow_pos k
 have h2 : 2 ^ k ≤ 2 ^ 63 := Nat.pow_le_pow_right (by decide) (by omega : k ≤ 63)
 have e : ((2 : Int) ^ k) = ((2 ^ k : Nat) : Int) := by simp
 rw [e]; omega
theorem or_lo_hi {n k : Nat} (h : k < 64) (hb : n.testBit k = true) : HI (n % 2 ^ k) = HI (n % 2 ^ (k + 1)) := by
 rw [word_yes hb]
 unfold HI
 rw [Nat.or_div_two_pow, Nat.div_eq_of_lt (a := 2 ^ k) (Nat.pow_lt_pow_right (by decide) h), Nat.or_zero]
theorem or_hi {n k : Nat} (h : 64 ≤ k) (h2 : k < 128) (hn : n < 2 ^ 128) (hb : n.testBit k = true) : bits .or .u64 (HI (n % 2 ^ k)) (IntKind.u64.wrap (2 ^ (k - 64))) = HI (n % 2 ^ (k + 1)) := by
 have h3 : n % 2 ^ k < 2 ^ 128 := Nat.lt_of_le_of_lt (Nat.mod_le _ _) hn
 rw [word_yes hb, ← hi_or h3 (Nat.pow_lt_pow_right (by decide) h2), hi_pow' h]
 congr 1
 rw [IntKind.wrap_u64]
 have h5 := Nat.two_pow_pos (k - 64)
 have h4 : 2 ^ (k - 64) ≤ 2 ^ 63 := Nat.pow_le_pow_right (by decide) (by omega : k - 64 ≤ 63)
 have e : ((2 : Int) ^ (k - 64)) = ((2 ^ (k - 64) : Nat) : Int) := by simp
 rw [e]; omega
theorem or_hi_lo {n k : Nat} (h : 64 ≤ k) (hb : n.testBit k = true) : LO (n % 2 ^ k) = LO (n % 2 ^ (k + 1)) := by
 rw [word_yes hb]
 unfold LO
 rw [Nat.or_mod_two_pow, Nat.mod_eq_zero_of_dvd (Nat.pow_dvd_pow 2 h), Nat.or_zero]
end Go.Proofs.Ytedldoobmmhloaa
namespace Go.Proofs.Ytedldoobmmhloaa
set_option maxHeartbeats 12800000
set_option maxRecDepth 100000
set_option linter.unusedSimpArgs false
set_option linter.unusedVariables false
theorem top_step {n W k : Nat} (hk : k < W) : n / 2 ^ (W - (k + 1)) = 2 * (n / 2 ^ (W - k)) + (if n.testBit (W - 1 - k) then 1 else 0) := by
 have e : 2 ^ (W - k) = 2 ^ (W - (k + 1)) * 2 := by rw [← Nat.pow_succ]; congr 1; omega
 rw [e, ← Nat.div_div_eq_div_mul, show W - 1 - k = W - (k + 1) from by omega, Nat.testBit_eq_decide_div_mod_eq]
 generalize n / 2 ^ (W - (k + 1)) = x
 by_cases h : x % 2 = 1
 ·simp [h]; omega
 ·simp [h]; omega
theorem div_step_lt {m N c : Nat} (h : 2 * (N % m) + c < m) : (2 * N + c) / m = 2 * (N / m) ∧ (2 * N + c) % m = 2 * (N % m) + c := by
 have e : 2 * N + c = (2 * (N % m) + c) + m * (2 * (N / m)) := by
  have := Nat.mod_add_div N m
  have e2 : m * (2 * (N / m)) = 2 * (m * (N / m)) := Nat.mul_left_comm ..
  omega
 rw [e]
 constructor
 ·rw [Nat.add_mul_div_left _ _ (by omega), Nat.div_eq_of_lt h]; omega
 ·rw [Nat.add_mul_mod_self_left, Nat.mod_eq_of_lt h]
theorem div_step_ge {m N c : Nat} (hm : 0 < m) (hc : c ≤ 1) (h : m ≤ 2 * (N % m) + c) : (2 * N + c) / m = 2 * (N / m) + 1 ∧ (2 * N + c) % m = 2 * (N % m) + c - m := by
 have hr : N % m < m := Nat.mod_lt _ hm
 have e : 2 * N + c = (2 * (N % m) + c - m) + m * (2 * (N / m) + 1) := by
  have := Nat.mod_add_div N m
  have e2 : m * (2 * (N / m) + 1) = 2 * (m * (N / m)) + m := by rw [Nat.mul_add, Nat.mul_left_comm]; omega
  omega
 have h2 : 2 * (N % m) + c - m < m := by omega
 generalize hx : 2 * (N % m) + c - m = x at *
 generalize hy : 2 * (N / m) + 1 = y at *
 rw [e]
 constructor
 ·rw [Nat.add_mul_div_left _ _ hm, Nat.div_eq_of_lt h2]; omega
 ·rw [Nat.add_mul_mod_self_left, Nat.mod_eq_of_lt h2]
theorem testBit_top {W r : Nat} (h1 : 1 ≤ W) (h : r < 2 ^ W) : r.testBit (W - 1) = decide (2 ^ (W - 1) ≤ r) := by
 have e : 2 ^ W = 2 * 2 ^ (W - 1) := by rw [← Nat.pow_succ']; congr 1; omega
 rw [Nat.testBit_eq_decide_div_mod_eq]
 have hp := Nat.two_pow_pos (W - 1)
 by_cases hl : 2 ^ (W - 1) ≤ r
 ·have : r / 2 ^ (W - 1) = 1 := by
   apply Nat.div_eq_of_lt_le <;> omega
  simp [this, hl]
 ·rw [Nat.div_eq_of_lt (by omega)]; simp [hl]
theorem pow_pred {W : Nat} (h1 : 1 ≤ W) : 2 ^ W = 2 * 2 ^ (W - 1) := by rw [← Nat.pow_succ']; congr 1; omega
theorem twice_lo {W r : Nat} (h1 : 1 ≤ W) (h : r < 2 ^ W) (ht : r.testBit (W - 1) = false) : r * 2 ^ 1 % 2 ^ W = 2 * r := by
 rw [testBit_top h1 h] at ht
 simp at ht
 have e := pow_pred h1
 rw [Nat.mod_eq_of_lt (by omega)]; omega
theorem twice_hi {W r : Nat} (h1 : 1 ≤ W) (h : r < 2 ^ W) (ht : r.testBit (W - 1) = true) : r * 2 ^ 1 % 2 ^ W + 2 ^ W = 2 * r := by
 rw [testBit_top h1 h] at ht
 simp at ht
 have e := pow_pred h1
 rw [Nat.mod_eq_sub_mod (by omega), Nat.mod_eq_of_lt (by omega)]; omega
theorem twice_even {W r : Nat} (h1 : 1 ≤ W) : r * 2 ^ 1 % 2 ^ W % 2 = 0 := by
 rw [Nat.mod_mod_of_dvd _ (by rw [pow_pred h1]; exact Nat.dvd_mul_right 2 _)]; omega
theorem or1_lo {x : Nat} (h : x % 2 = 0) : bits .or .u64 (LO x) 1 = LO (x + 1) := by
 rw [lo1, lo_or]
 congr 1
 have h2 := Nat.two_pow_add_eq_or_of_lt (i := 1) (b := 1) (by decide) (x / 2)
 have e : 2 ^ 1 * (x / 2) = x := by omega
 rw [e] at h2
 exact h2.symm
theorem or1_hi {x : Nat} (h : x % 2 = 0) : HI x = HI (x + 1) := by
 unfold HI; congr 1; omega
theorem quot_bound {n m W k : Nat} (hk : k < W) (hn : n < 2 ^ W) : n / 2 ^ (W - k) / m * 2 ^ 1 % 2 ^ W = 2 * (n / 2 ^ (W - k) / m) := by
 have h1 : n / 2 ^ (W - k) / m ≤ n / 2 ^ (W - k) := Nat.div_le_self _ _
 have h2 : n / 2 ^ (W - k) < 2 ^ k := by
  apply Nat.div_lt_of_lt_mul
  rw [← Nat.pow_add, show W - k + k = W from by omega]; exact hn
 have h3 : 2 ^ (k + 1) ≤ 2 ^ W := Nat.pow_le_pow_right (by decide) (by omega)
 rw [Nat.pow_succ] at h3
 rw [Nat.mod_eq_of_lt (by omega)]; omega
end Go.Proofs.Ytedldoobmmhloaa
