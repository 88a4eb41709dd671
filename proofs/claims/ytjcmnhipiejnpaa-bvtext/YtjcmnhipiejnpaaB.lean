/- Contracts: complement, sum, difference, product, the order, a bit. -/
import Derived.Test.YtjcmnhipiejnpaaA
import Derived.Shelf.Bits.Mul64
import Derived.Shelf.Spec.BitsCarry
namespace Go.Proofs.Ytjcmnhipiejnpaa
open Go.RowKit
set_option linter.unusedSimpArgs false
set_option linter.unusedVariables false

set_option maxHeartbeats 200000 in
theorem turn_any {W n : Nat} {WW lo hi : Int} (hw : Wd WW lo hi W n) (w : World) :
    Calls Try.prog 52 #[.agg #[.int .i64 WW, .int .u64 lo, .int .u64 hi]] w fun e w' => e = .returned (.agg #[.int .i64 W, .int .u64 (LO (2 ^ W - 1 - n)), .int .u64 (HI (2 ^ W - 1 - n))]) ∧ Below w.heap.size w w' := by
  have hbig := hw.big
  obtain ⟨h1, h2, hn, rfl, rfl, rfl⟩ := hw
  go_enter Try.func52, Try.ntmps52
  go_wp2_with fail
  refine (cut_any (m := 2 ^ 128 - 1 - n) (r := 2 ^ W - 1 - n) h1 h2 (by omega) (turn_mod h2 hn) rfl (turn_lo hbig) (turn_hi hbig) _).mono ?_
  rintro e w1 ⟨rfl, hb1⟩
  have hb1' := below_step (w := w) (by go_grown) hb1
  have hs1 := hb1'.size
  have hz1_0 : w.heap.size < w1.heap.size := by have := hb1.size; (try simp at this); omega
  have hz1_1 : w.heap.size + 1 < w1.heap.size := by have := hb1.size; (try simp at this); omega
  obtain ⟨hc1, hf1⟩ := bcell hb1
  go_wp2_with fail
  refine bodyPost_ret (v := .agg #[.int .i64 W, .int .u64 (LO (2 ^ W - 1 - n)), .int .u64 (HI (2 ^ W - 1 - n))]) (by simp [results, Try.results52, go_sem, *]) rfl ?_
  exact ⟨rfl, by go_grown⟩

theorem add64 (n m : Nat) (w : World) :
    (callFunc 100 #[.int .u64 (LO n), .int .u64 (LO m), .int .u64 0]).run Try.prog w =
      .ok (.value (.tuple #[.int .u64 ((LO n + LO m) % 18446744073709551616), .int .u64 ((LO n + LO m) / 18446744073709551616)])) w := by
  rw [run_callFunc_extern Try.func100 (by kernel_rfl) (by kernel_rfl) (by kernel_rfl) (e := add64Entry) (by kernel_rfl), run_add64 _ _ 0 (by unfold LO; omega) (by unfold LO; omega) (by omega) (by omega)]
  simp only [Result.andThen, Int.add_zero]

set_option maxHeartbeats 200000 in
theorem add_any {W n m : Nat} {WW lo hi WW' lo' hi' : Int} (hw : Wd WW lo hi W n) (hw' : Wd WW' lo' hi' W m) (w : World) :
    Calls Try.prog 80 #[.agg #[.int .i64 WW, .int .u64 lo, .int .u64 hi], .agg #[.int .i64 WW', .int .u64 lo', .int .u64 hi']] w fun e w' => e = .returned (.agg #[.int .i64 W, .int .u64 (LO ((n + m) % 2 ^ W)), .int .u64 (HI ((n + m) % 2 ^ W))]) ∧ Below w.heap.size w w' := by
  obtain ⟨h1, h2, hn, rfl, rfl, rfl⟩ := hw
  obtain ⟨-, -, hn', rfl, rfl, rfl⟩ := hw'
  have ha := add64 n m
  go_enter Try.func80, Try.ntmps80
  go_wp2_with fail
  refine (cut_any (m := (n + m) % 2 ^ 128) (r := (n + m) % 2 ^ W) h1 h2 (Nat.mod_lt _ (by decide)) (mod_128 h2) rfl (add_lo n m) (add_hi n m) _).mono ?_
  rintro e w1 ⟨rfl, hb1⟩
  have hb1' := below_step (w := w) (by go_grown) hb1
  have hs1 := hb1'.size
  have hz1_0 : w.heap.size < w1.heap.size := by have := hb1.size; (try simp at this); omega
  have hz1_1 : w.heap.size + 1 < w1.heap.size := by have := hb1.size; (try simp at this); omega
  have hz1_2 : w.heap.size + 1 + 1 < w1.heap.size := by have := hb1.size; (try simp at this); omega
  obtain ⟨hc1, hf1⟩ := bcell hb1
  go_wp2_with fail
  refine bodyPost_ret (v := .agg #[.int .i64 W, .int .u64 (LO ((n + m) % 2 ^ W)), .int .u64 (HI ((n + m) % 2 ^ W))]) (by simp [results, Try.results80, go_sem, *]) rfl ?_
  exact ⟨rfl, by go_grown⟩

theorem sub64 (n m : Nat) (w : World) :
    (callFunc 104 #[.int .u64 (LO n), .int .u64 (LO m), .int .u64 0]).run Try.prog w =
      .ok (.value (.tuple #[.int .u64 ((LO n + 18446744073709551616 - LO m) % 18446744073709551616), .int .u64 (bor (LO n) (LO m))])) w := by
  have e1 : LO n = ((n % 2 ^ 64 : Nat) : Int) := rfl
  have e2 : LO m = ((m % 2 ^ 64 : Nat) : Int) := rfl
  rw [e1, e2, show (0 : Int) = ((0 : Nat) : Int) from rfl, run_callFunc_extern Try.func104 (by kernel_rfl) (by kernel_rfl) (by kernel_rfl) (e := sub64Entry) (by kernel_rfl), run_sub64 (n % 2 ^ 64) (m % 2 ^ 64) 0 (by omega)]
  have hx := lo_lt n
  have hy := lo_lt m
  clear e1 e2
  generalize n % 2 ^ 64 = x at *
  generalize m % 2 ^ 64 = y at *
  simp only [Result.andThen]
  have e3 : (((x + 18446744073709551616 - y - 0) % 18446744073709551616 : Nat) : Int) = ((x : Int) + 18446744073709551616 - y) % 18446744073709551616 := by omega
  have e4 : ((if x < y + 0 then 1 else 0 : Nat) : Int) = bor x y := by
    unfold bor
    by_cases hlt : x < y
    · rw [if_pos (by omega), if_pos (by omega)]; rfl
    · rw [if_neg (by omega), if_neg (by omega)]; rfl
  rw [e3, e4]

set_option maxHeartbeats 200000 in
theorem subtract_any {W n m : Nat} {WW lo hi WW' lo' hi' : Int} (hw : Wd WW lo hi W n) (hw' : Wd WW' lo' hi' W m) (w : World) :
    Calls Try.prog 98 #[.agg #[.int .i64 WW, .int .u64 lo, .int .u64 hi], .agg #[.int .i64 WW', .int .u64 lo', .int .u64 hi']] w fun e w' => e = .returned (.agg #[.int .i64 W, .int .u64 (LO ((n + (2 ^ W - m)) % 2 ^ W)), .int .u64 (HI ((n + (2 ^ W - m)) % 2 ^ W))]) ∧ Below w.heap.size w w' := by
  have hbig' := hw'.big
  obtain ⟨h1, h2, hn, rfl, rfl, rfl⟩ := hw
  obtain ⟨-, -, hn', rfl, rfl, rfl⟩ := hw'
  have ha := sub64 n m
  go_enter Try.func98, Try.ntmps98
  go_wp2_with fail
  refine (cut_any (m := (n + (2 ^ 128 - m)) % 2 ^ 128) (r := (n + (2 ^ W - m)) % 2 ^ W) h1 h2 (Nat.mod_lt _ (by decide)) (sub_mod h2 hn') rfl (sub_lo hbig') (sub_hi hbig') _).mono ?_
  rintro e w1 ⟨rfl, hb1⟩
  have hb1' := below_step (w := w) (by go_grown) hb1
  have hs1 := hb1'.size
  have hz1_0 : w.heap.size < w1.heap.size := by have := hb1.size; (try simp at this); omega
  have hz1_1 : w.heap.size + 1 < w1.heap.size := by have := hb1.size; (try simp at this); omega
  have hz1_2 : w.heap.size + 1 + 1 < w1.heap.size := by have := hb1.size; (try simp at this); omega
  obtain ⟨hc1, hf1⟩ := bcell hb1
  go_wp2_with fail
  refine bodyPost_ret (v := .agg #[.int .i64 W, .int .u64 (LO ((n + (2 ^ W - m)) % 2 ^ W)), .int .u64 (HI ((n + (2 ^ W - m)) % 2 ^ W))]) (by simp [results, Try.results98, go_sem, *]) rfl ?_
  exact ⟨rfl, by go_grown⟩

set_option maxHeartbeats 1000000 in
theorem mul64_any (x y : Nat) (hx : x < 18446744073709551616) (hy : y < 18446744073709551616) (w : World) :
    Calls Try.prog 101 #[.int .u64 x, .int .u64 y] w fun e w' => e = .returned (.tuple #[.int .u64 ((x * y / 18446744073709551616 : Nat) : Int), .int .u64 ((x * y % 18446744073709551616 : Nat) : Int)]) ∧ w' = w := by
  obtain ⟨bd, bt, bw, hhi⟩ := Lib.mul64_hi x y hx hy
  have ba := Lib.half_mul_le (a := x / 4294967296) (b := y / 4294967296) (by omega) (by omega)
  have bb := Lib.half_mul_le (a := x / 4294967296) (b := y % 4294967296) (by omega) (by omega)
  have bc := Lib.half_mul_le (a := x % 4294967296) (b := y / 4294967296) (by omega) (by omega)
  have ba' : x / 4294967296 * (y / 4294967296) < 18446744073709551616 := by omega
  have bb' : x / 4294967296 * (y % 4294967296) < 18446744073709551616 := by omega
  have bc' : x % 4294967296 * (y / 4294967296) < 18446744073709551616 := by omega
  have bh1 : x / 4294967296 * (y / 4294967296) + (x / 4294967296 * (y % 4294967296) + x % 4294967296 * (y % 4294967296) / 4294967296) / 4294967296 < 18446744073709551616 := by omega
  have bh : x / 4294967296 * (y / 4294967296) + (x / 4294967296 * (y % 4294967296) + x % 4294967296 * (y % 4294967296) / 4294967296) / 4294967296 + ((x / 4294967296 * (y % 4294967296) + x % 4294967296 * (y % 4294967296) / 4294967296) % 4294967296 + x % 4294967296 * (y / 4294967296)) / 4294967296 < 18446744073709551616 := by omega
  go_enter Try.func101, Try.ntmps101
  go_wp2
  simp only [Mul64.maskN x hx, Mul64.maskN y hy, Mul64.divN, Mul64.mulN, Mul64.addN, Mul64.wrapN _ bd, Mul64.wrapN _ bb', Mul64.wrapN _ bt, Mul64.maskN _ bt, Mul64.wrapN _ bc', Mul64.wrapN _ bw, Mul64.wrapN _ ba', Mul64.wrapN _ bh1, Mul64.wrapN _ bh, Mul64.wrapM (x * y)]
  rw [hhi]
  go_ret2
  exact ⟨rfl, rfl⟩

theorem mul64_w (n m : Nat) (w : World) :
    Calls Try.prog 101 #[.int .u64 (LO n), .int .u64 (LO m)] w fun e w' => e = .returned (.tuple #[.int .u64 (mulH n m), .int .u64 (mulL n m)]) ∧ w' = w := mul64_any _ _ (lo_lt n) (lo_lt m) w

set_option maxHeartbeats 200000 in
theorem multiply_any {W n m : Nat} {WW lo hi WW' lo' hi' : Int} (hw : Wd WW lo hi W n) (hw' : Wd WW' lo' hi' W m) (w : World) :
    Calls Try.prog 81 #[.agg #[.int .i64 WW, .int .u64 lo, .int .u64 hi], .agg #[.int .i64 WW', .int .u64 lo', .int .u64 hi']] w fun e w' => e = .returned (.agg #[.int .i64 W, .int .u64 (LO (n * m % 2 ^ W)), .int .u64 (HI (n * m % 2 ^ W))]) ∧ Below w.heap.size w w' := by
  obtain ⟨h1, h2, hn, rfl, rfl, rfl⟩ := hw
  obtain ⟨-, -, hn', rfl, rfl, rfl⟩ := hw'
  go_enter Try.func81, Try.ntmps81
  go_wp2_with fail
  refine (mul64_w _ _ _).mono ?_
  rintro e w0 ⟨rfl, rfl⟩
  go_wp2_with fail
  refine (cut_any (m := n * m % 2 ^ 128) (r := n * m % 2 ^ W) h1 h2 (Nat.mod_lt _ (by decide)) (mod_128 h2) rfl (mul_lo n m) (mul_hi n m) _).mono ?_
  rintro e w1 ⟨rfl, hb1⟩
  have hb1' := below_step (w := w) (by go_grown) hb1
  have hs1 := hb1'.size
  have hz1_0 : w.heap.size < w1.heap.size := by have := hb1.size; (try simp at this); omega
  have hz1_1 : w.heap.size + 1 < w1.heap.size := by have := hb1.size; (try simp at this); omega
  have hz1_2 : w.heap.size + 1 + 1 < w1.heap.size := by have := hb1.size; (try simp at this); omega
  obtain ⟨hc1, hf1⟩ := bcell hb1
  go_wp2_with fail
  refine bodyPost_ret (v := .agg #[.int .i64 W, .int .u64 (LO (n * m % 2 ^ W)), .int .u64 (HI (n * m % 2 ^ W))]) (by simp [results, Try.results81, go_sem, *]) rfl ?_
  exact ⟨rfl, by go_grown⟩

set_option maxHeartbeats 200000 in
theorem negate_any {W n : Nat} {WW lo hi : Int} (hw : Wd WW lo hi W n) (w : World) :
    Calls Try.prog 74 #[.agg #[.int .i64 WW, .int .u64 lo, .int .u64 hi]] w fun e w' => e = .returned (.agg #[.int .i64 W, .int .u64 (LO (neg W n)), .int .u64 (HI (neg W n))]) ∧ Below w.heap.size w w' := by
  obtain ⟨h1, h2, hn, rfl, rfl, rfl⟩ := hw
  go_enter Try.func74, Try.ntmps74
  go_wp2_with fail
  go_region_held3 (fun x => x.cell? ⟨w.heap.size, 0, none⟩ = some (.int .i64 W) ∧ x.cell? ⟨w.heap.size, 1, none⟩ = some (.int .u64 (LO (n))) ∧ x.cell? ⟨w.heap.size, 2, none⟩ = some (.int .u64 (HI (n))) ∧ x.cell? ⟨w.heap.size + 1, 0, none⟩ = some (cv x ⟨w.heap.size + 1, 0, none⟩) ∧ x.cell? ⟨w.heap.size + 1, 1, none⟩ = some (cv x ⟨w.heap.size + 1, 1, none⟩) ∧ x.cell? ⟨w.heap.size + 1, 2, none⟩ = some (cv x ⟨w.heap.size + 1, 2, none⟩) ∧ (∀ o, x.frozen? ⟨w.heap.size + 1, o, none⟩ = false) ∧ Below w.heap.size w x)
    ((first | (obtain ⟨q0, q1, q2, q3, q4, q5, q6, q7⟩ := ‹_ ∧ _ ∧ _ ∧ _ ∧ _ ∧ _ ∧ _ ∧ _›; with_reducible exact ⟨keep_cell hb q0, keep_cell hb q1, keep_cell hb q2, cv_of (keep_cell hb q3), cv_of (keep_cell hb q4), cv_of (keep_cell hb q5), keep_frozen hb q3 q6, below_step q7 hb⟩) | (obtain ⟨q0, q1, q2, q3, q4, q5, q6, q7⟩ := ‹_ ∧ _ ∧ _ ∧ _ ∧ _ ∧ _ ∧ _ ∧ _›; with_reducible exact ⟨put_cell (by omega) q0, put_cell (by omega) q1, put_cell (by omega) q2, put_own0 q3, put_own1 q4, put_own2 q5, put_frozen q6, put_below q7 (by omega)⟩) | (refine ⟨?_, ?_, ?_, ?_, ?_, ?_, ?_, ?_⟩ <;> first | (simp [go_sem]; done) | (refine cv_some ?_; simp [go_sem]; done) | go_grown)))
    ((first | (go_at_call 39; refine (cut_any (m := 0) (r := 0) h1 h2 (by decide) (Nat.zero_mod _) rfl lo0 hi0 _).mono ?_; rintro e w1 ⟨rfl, hb⟩) | (go_at_call 98; refine (subtract_any (Wd.mk' h1 h2 (Nat.two_pow_pos W)) (Wd.mk' h1 h2 hn) _).mono ?_; rintro e w1 ⟨rfl, hb⟩)))
  obtain ⟨hq1_0, hq1_1, hq1_2, hR3, hR4, hR5, -, hBq1⟩ := ‹_ ∧ _ ∧ _ ∧ _ ∧ _ ∧ _ ∧ _ ∧ _›
  have HR3 : Hid _ := hR3
  clear hR3
  have HR4 : Hid _ := hR4
  clear hR4
  have HR5 : Hid _ := hR5
  clear hR5
  go_wp2_with fail
  refine bodyPost_ret (ret_bits rfl rfl (got0 HR3.out) (got1 HR4.out) (got2 HR5.out)) rfl ?_
  exact ⟨rfl, by go_grown⟩

theorem ret_bool {a b : Bool} (h : a = b) : Ending.returned (.bool a) = .returned (.bool b) := by rw [h]

set_option maxHeartbeats 200000 in
theorem isBelow_any {W n m : Nat} {WW lo hi WW' lo' hi' : Int} (hw : Wd WW lo hi W n) (hw' : Wd WW' lo' hi' W m) (w : World) :
    Calls Try.prog 87 #[.agg #[.int .i64 WW, .int .u64 lo, .int .u64 hi], .agg #[.int .i64 WW', .int .u64 lo', .int .u64 hi']] w fun e w' => e = .returned (.bool (ltB n m)) ∧ Below w.heap.size w w' := by
  obtain ⟨h1, h2, hn, rfl, rfl, rfl⟩ := hw
  obtain ⟨-, -, hn', rfl, rfl, rfl⟩ := hw'
  by_cases h : HI n = HI m
  · have hl := lt_lo h
    have hq : (HI n != HI m) = false := by simp [h]
    have HL : Hid _ := hl
    clear h hl
    go_enter Try.func87, Try.ntmps87
    go_wp2_with fail
    go_ret
    exact ⟨ret_bool HL.out, by go_grown⟩
  · have hl := lt_hi h
    have hq : (HI n != HI m) = true := by simp [h]
    have HL : Hid _ := hl
    clear h hl
    go_enter Try.func87, Try.ntmps87
    go_wp2_with fail
    go_ret
    exact ⟨ret_bool HL.out, by go_grown⟩

theorem field_w (a b c : Int) (w : World) : (Instr.field 24 (.agg #[.int .i64 a, .int .u64 b, .int .u64 c]) 0).run Try.prog w = .ok (.int .i64 a) w := by kernel_rfl
theorem field_lo (a b c : Int) (w : World) : (Instr.field 24 (.agg #[.int .i64 a, .int .u64 b, .int .u64 c]) 1).run Try.prog w = .ok (.int .u64 b) w := by kernel_rfl
theorem field_hi (a b c : Int) (w : World) : (Instr.field 24 (.agg #[.int .i64 a, .int .u64 b, .int .u64 c]) 2).run Try.prog w = .ok (.int .u64 c) w := by kernel_rfl

set_option maxHeartbeats 200000 in
theorem bitAt_any {W n i : Nat} {WW lo hi ii : Int} (hw : Wd WW lo hi W n) (hi1 : ii = i) (hi2 : i < 2 ^ 62) (w : World) :
    Calls Try.prog 47 #[.agg #[.int .i64 WW, .int .u64 lo, .int .u64 hi], .int .i64 ii] w fun e w' => e = .returned (.bool (n.testBit i)) ∧ Below w.heap.size w w' := by
  obtain ⟨h1, h2, hn, rfl, rfl, rfl⟩ := hw
  subst hi1
  go_enter Try.func47, Try.ntmps47
  go_wp2_with fail
  refine (moveDown_any (Wd.mk' h1 h2 hn) rfl hi2 _).mono ?_
  rintro e w1 ⟨rfl, hb1⟩
  have hb1' := below_step (w := w) (by go_grown) hb1
  have hs1 := hb1'.size
  have hz1_0 : w.heap.size < w1.heap.size := by have := hb1.size; (try simp at this); omega
  obtain ⟨hc1, hf1⟩ := bcell hb1
  have hfl := field_lo
  go_wp2_with fail
  go_ret
  exact ⟨ret_bool (bit_at n i), by go_grown⟩

set_option maxHeartbeats 200000 in
theorem isBelowZero_any {W n : Nat} {WW lo hi : Int} (hw : Wd WW lo hi W n) (w : World) :
    Calls Try.prog 51 #[.agg #[.int .i64 WW, .int .u64 lo, .int .u64 hi]] w fun e w' => e = .returned (.bool (n.testBit (W - 1))) ∧ Below w.heap.size w w' := by
  obtain ⟨h1, h2, hn, rfl, rfl, rfl⟩ := hw
  go_enter Try.func51, Try.ntmps51
  go_wp2_with fail
  refine (bitAt_any (i := W - 1) (Wd.mk' h1 h2 hn) (by omega) (by omega) _).mono ?_
  rintro e w1 ⟨rfl, hb1⟩
  have hb1' := below_step (w := w) (by go_grown) hb1
  have hs1 := hb1'.size
  have hz1_0 : w.heap.size < w1.heap.size := by have := hb1.size; (try simp at this); omega
  obtain ⟨hc1, hf1⟩ := bcell hb1
  go_wp2_with fail
  go_ret
  exact ⟨rfl, by go_grown⟩

set_option maxHeartbeats 200000 in
theorem bool_any (b : Bool) (w : World) :
    Calls Try.prog 17 #[.bool b] w fun e w' => e = .returned (.agg #[.int .i64 0, .int .u64 (if b then 1 else 0), .int .u64 0]) ∧ Below w.heap.size w w' := by
  cases b
  · go_enter Try.func17, Try.ntmps17
    go_wp2_with fail
    refine bodyPost_ret (v := .agg #[.int .i64 0, .int .u64 0, .int .u64 0]) (by simp [results, Try.results17, go_sem]) rfl ?_
    exact ⟨rfl, by go_grown⟩
  · go_enter Try.func17, Try.ntmps17
    go_wp2_with fail
    refine bodyPost_ret (v := .agg #[.int .i64 0, .int .u64 1, .int .u64 0]) (by simp [results, Try.results17, go_sem]) rfl ?_
    exact ⟨rfl, by go_grown⟩

set_option maxHeartbeats 200000 in
theorem right_any {W n : Nat} {WW lo hi : Int} (hw : Wd WW lo hi W n) (w : World) :
    Calls Try.prog 10 #[.agg #[.int .i64 WW, .int .u64 lo, .int .u64 hi]] w fun e w' => e = .returned (.bool true) ∧ Below w.heap.size w w' := by
  have hbig := hw.big
  obtain ⟨h1, h2, hn, rfl, rfl, rfl⟩ := hw
  have hd : decide ((W : Int) < 0) = false := by simp only [decide_eq_false_iff_not]; omega
  have hd2 : decide ((128 : Int) < W) = false := by simp only [decide_eq_false_iff_not]; omega
  have hd3 : ((W : Int) == 0) = false := by simp; omega
  go_enter Try.func10, Try.ntmps10
  go_wp2_with fail
  go_region_held3 (fun x => x.cell? ⟨w.heap.size, 0, none⟩ = some (.int .i64 W) ∧ x.cell? ⟨w.heap.size, 1, none⟩ = some (.int .u64 (LO (n))) ∧ x.cell? ⟨w.heap.size, 2, none⟩ = some (.int .u64 (HI (n))) ∧ Below w.heap.size w x)
    ((first | (obtain ⟨q0, q1, q2, q3⟩ := ‹_ ∧ _ ∧ _ ∧ _›; with_reducible exact ⟨keep_cell hb q0, keep_cell hb q1, keep_cell hb q2, below_step q3 hb⟩) | (refine ⟨?_, ?_, ?_, ?_⟩ <;> first | (simp [go_sem]; done) | (refine cv_some ?_; simp [go_sem]; done) | go_grown)))
    ((first | (go_at_call 39; refine (cut_any (m := n) (r := n) h1 h2 hbig (Nat.mod_eq_of_lt hn) rfl rfl rfl _).mono ?_; rintro e w1 ⟨rfl, hb⟩)))
  obtain ⟨hq2_0, hq2_1, hq2_2, hBq2⟩ := ‹_ ∧ _ ∧ _ ∧ _›
  go_wp2_with fail
  go_ret
  exact ⟨rfl, by go_grown⟩

set_option maxHeartbeats 200000 in
theorem isWord_any {W n : Nat} {WW lo hi : Int} (hw : Wd WW lo hi W n) (w : World) :
    Calls Try.prog 46 #[.agg #[.int .i64 WW, .int .u64 lo, .int .u64 hi]] w fun e w' => e = .returned (.bool true) ∧ Below w.heap.size w w' := by
  obtain ⟨h1, h2, hn, rfl, rfl, rfl⟩ := hw
  have hd3 : ((W : Int) != 0) = true := by simp; omega
  go_enter Try.func46, Try.ntmps46
  go_wp2_with fail
  refine (right_any (Wd.mk' h1 h2 hn) _).mono ?_
  rintro e w1 ⟨rfl, hb1⟩
  have hb1' := below_step (w := w) (by go_grown) hb1
  have hs1 := hb1'.size
  have hz1_0 : w.heap.size < w1.heap.size := by have := hb1.size; (try simp at this); omega
  obtain ⟨hc1, hf1⟩ := bcell hb1
  go_wp2_with fail
  go_ret
  exact ⟨rfl, by go_grown⟩
end Go.Proofs.Ytjcmnhipiejnpaa
