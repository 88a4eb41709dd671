/- Contracts: complement, sum, difference, product, the order, a bit. -/
import Derived.Test.YtnflphhckgeneaaA
import Derived.Shelf.Bits.Mul64
import Derived.Shelf.Spec.BitsCarry
import Derived.Test.YtnflphhckgeneaaMath
namespace Go.Proofs.Ytnflphhckgeneaa
open Go.RowKit
set_option linter.unusedSimpArgs false
set_option linter.unusedVariables false

set_option maxHeartbeats 200000 in
theorem turn_any {W n : Nat} {WW lo hi : Int} (hw : Wd WW lo hi W n) (w : World) :
    Calls Try.prog 66 #[.agg #[.int .i64 WW, .int .u64 lo, .int .u64 hi]] w fun e w' => e = .returned (.agg #[.int .i64 W, .int .u64 (LO (2 ^ W - 1 - n)), .int .u64 (HI (2 ^ W - 1 - n))]) ∧ Below w.heap.size w w' := by
  have hbig := hw.big
  obtain ⟨h1, h2, hn, rfl, rfl, rfl⟩ := hw
  go_enter Try.func66, Try.ntmps66
  go_wp2_with fail
  refine (cut_any (m := 2 ^ 128 - 1 - n) (r := 2 ^ W - 1 - n) h1 h2 (by omega) (turn_mod h2 hn) rfl (turn_lo hbig) (turn_hi hbig) _).mono ?_
  rintro e w1 ⟨rfl, hb1⟩
  have hb1' := below_step (w := w) (by go_grown) hb1
  have hs1 := hb1'.size
  have hz1_0 : w.heap.size < w1.heap.size := by have := hb1.size; (try simp at this); omega
  have hz1_1 : w.heap.size + 1 < w1.heap.size := by have := hb1.size; (try simp at this); omega
  obtain ⟨hc1, hf1⟩ := bcell hb1
  go_wp2_with fail
  refine bodyPost_ret (v := .agg #[.int .i64 W, .int .u64 (LO (2 ^ W - 1 - n)), .int .u64 (HI (2 ^ W - 1 - n))]) (by simp [results, Try.results66, go_sem, *]) rfl ?_
  exact ⟨rfl, by go_grown⟩

theorem add64 (n m : Nat) (w : World) :
    (callFunc 92 #[.int .u64 (LO n), .int .u64 (LO m), .int .u64 0]).run Try.prog w =
      .ok (.value (.tuple #[.int .u64 ((LO n + LO m) % 18446744073709551616), .int .u64 ((LO n + LO m) / 18446744073709551616)])) w := by
  rw [run_callFunc_extern Try.func92 (by kernel_rfl) (by kernel_rfl) (by kernel_rfl) (e := add64Entry) (by kernel_rfl), run_add64 _ _ 0 (by unfold LO; omega) (by unfold LO; omega) (by omega) (by omega)]
  simp only [Result.andThen, Int.add_zero]

set_option maxHeartbeats 200000 in
theorem add_any {W n m : Nat} {WW lo hi WW' lo' hi' : Int} (hw : Wd WW lo hi W n) (hw' : Wd WW' lo' hi' W m) (w : World) :
    Calls Try.prog 83 #[.agg #[.int .i64 WW, .int .u64 lo, .int .u64 hi], .agg #[.int .i64 WW', .int .u64 lo', .int .u64 hi']] w fun e w' => e = .returned (.agg #[.int .i64 W, .int .u64 (LO ((n + m) % 2 ^ W)), .int .u64 (HI ((n + m) % 2 ^ W))]) ∧ Below w.heap.size w w' := by
  obtain ⟨h1, h2, hn, rfl, rfl, rfl⟩ := hw
  obtain ⟨-, -, hn', rfl, rfl, rfl⟩ := hw'
  have ha := add64 n m
  go_enter Try.func83, Try.ntmps83
  go_wp2_with fail
  refine (cut_any (m := (n + m) % 2 ^ 128) (r := (n + m) % 2 ^ W) h1 h2 (Nat.mod_lt _ (by decide)) (mod_128 h2) rfl (add_lo n m) (add_hi n m) _).mono ?_
  rintro e w1 ⟨rfl, hb1⟩
  have hb1' := below_step (w := w) (by go_grown) hb1
  have hs1 := hb1'.size
  have hz1_0 : w.heap.size < w1.heap.size := by have := hb1.size; (try simp at this); omega
  have hz1_1 : w.heap.size + 1 < w1.heap.size := by have := hb1.size; (try simp at this); omega
  have hz1_2 : w.heap.size + 1 + 1 < w1.heap.size := by have := hb1.size; (try simp at this); omega
  obtain ⟨hc1, hf1⟩ := bcell hb1
  go_wp2_with fail
  refine bodyPost_ret (v := .agg #[.int .i64 W, .int .u64 (LO ((n + m) % 2 ^ W)), .int .u64 (HI ((n + m) % 2 ^ W))]) (by simp [results, Try.results83, go_sem, *]) rfl ?_
  exact ⟨rfl, by go_grown⟩

set_option maxHeartbeats 1000000 in
theorem mul64_any (x y : Nat) (hx : x < 18446744073709551616) (hy : y < 18446744073709551616) (w : World) :
    Calls Try.prog 93 #[.int .u64 x, .int .u64 y] w fun e w' => e = .returned (.tuple #[.int .u64 ((x * y / 18446744073709551616 : Nat) : Int), .int .u64 ((x * y % 18446744073709551616 : Nat) : Int)]) ∧ w' = w := by
  obtain ⟨bd, bt, bw, hhi⟩ := Lib.mul64_hi x y hx hy
  have ba := Lib.half_mul_le (a := x / 4294967296) (b := y / 4294967296) (by omega) (by omega)
  have bb := Lib.half_mul_le (a := x / 4294967296) (b := y % 4294967296) (by omega) (by omega)
  have bc := Lib.half_mul_le (a := x % 4294967296) (b := y / 4294967296) (by omega) (by omega)
  have ba' : x / 4294967296 * (y / 4294967296) < 18446744073709551616 := by omega
  have bb' : x / 4294967296 * (y % 4294967296) < 18446744073709551616 := by omega
  have bc' : x % 4294967296 * (y / 4294967296) < 18446744073709551616 := by omega
  have bh1 : x / 4294967296 * (y / 4294967296) + (x / 4294967296 * (y % 4294967296) + x % 4294967296 * (y % 4294967296) / 4294967296) / 4294967296 < 18446744073709551616 := by omega
  have bh : x / 4294967296 * (y / 4294967296) + (x / 4294967296 * (y % 4294967296) + x % 4294967296 * (y % 4294967296) / 4294967296) / 4294967296 + ((x / 4294967296 * (y % 4294967296) + x % 4294967296 * (y % 4294967296) / 4294967296) % 4294967296 + x % 4294967296 * (y / 4294967296)) / 4294967296 < 18446744073709551616 := by omega
  go_enter Try.func93, Try.ntmps93
  go_wp2
  simp only [Mul64.maskN x hx, Mul64.maskN y hy, Mul64.divN, Mul64.mulN, Mul64.addN, Mul64.wrapN _ bd, Mul64.wrapN _ bb', Mul64.wrapN _ bt, Mul64.maskN _ bt, Mul64.wrapN _ bc', Mul64.wrapN _ bw, Mul64.wrapN _ ba', Mul64.wrapN _ bh1, Mul64.wrapN _ bh, Mul64.wrapM (x * y)]
  rw [hhi]
  go_ret2
  exact ⟨rfl, rfl⟩

theorem mul64_w (n m : Nat) (w : World) :
    Calls Try.prog 93 #[.int .u64 (LO n), .int .u64 (LO m)] w fun e w' => e = .returned (.tuple #[.int .u64 (mulH n m), .int .u64 (mulL n m)]) ∧ w' = w := mul64_any _ _ (lo_lt n) (lo_lt m) w

set_option maxHeartbeats 200000 in
theorem multiply_any {W n m : Nat} {WW lo hi WW' lo' hi' : Int} (hw : Wd WW lo hi W n) (hw' : Wd WW' lo' hi' W m) (w : World) :
    Calls Try.prog 84 #[.agg #[.int .i64 WW, .int .u64 lo, .int .u64 hi], .agg #[.int .i64 WW', .int .u64 lo', .int .u64 hi']] w fun e w' => e = .returned (.agg #[.int .i64 W, .int .u64 (LO (n * m % 2 ^ W)), .int .u64 (HI (n * m % 2 ^ W))]) ∧ Below w.heap.size w w' := by
  obtain ⟨h1, h2, hn, rfl, rfl, rfl⟩ := hw
  obtain ⟨-, -, hn', rfl, rfl, rfl⟩ := hw'
  go_enter Try.func84, Try.ntmps84
  go_wp2_with fail
  refine (mul64_w _ _ _).mono ?_
  rintro e w0 ⟨rfl, rfl⟩
  go_wp2_with fail
  refine (cut_any (m := n * m % 2 ^ 128) (r := n * m % 2 ^ W) h1 h2 (Nat.mod_lt _ (by decide)) (mod_128 h2) rfl (mul_lo n m) (mul_hi n m) _).mono ?_
  rintro e w1 ⟨rfl, hb1⟩
  have hb1' := below_step (w := w) (by go_grown) hb1
  have hs1 := hb1'.size
  have hz1_0 : w.heap.size < w1.heap.size := by have := hb1.size; (try simp at this); omega
  have hz1_1 : w.heap.size + 1 < w1.heap.size := by have := hb1.size; (try simp at this); omega
  have hz1_2 : w.heap.size + 1 + 1 < w1.heap.size := by have := hb1.size; (try simp at this); omega
  obtain ⟨hc1, hf1⟩ := bcell hb1
  go_wp2_with fail
  refine bodyPost_ret (v := .agg #[.int .i64 W, .int .u64 (LO (n * m % 2 ^ W)), .int .u64 (HI (n * m % 2 ^ W))]) (by simp [results, Try.results84, go_sem, *]) rfl ?_
  exact ⟨rfl, by go_grown⟩

theorem ret_bool {a b : Bool} (h : a = b) : Ending.returned (.bool a) = .returned (.bool b) := by rw [h]

set_option maxHeartbeats 200000 in
theorem isBelow_any {W n m : Nat} {WW lo hi WW' lo' hi' : Int} (hw : Wd WW lo hi W n) (hw' : Wd WW' lo' hi' W m) (w : World) :
    Calls Try.prog 90 #[.agg #[.int .i64 WW, .int .u64 lo, .int .u64 hi], .agg #[.int .i64 WW', .int .u64 lo', .int .u64 hi']] w fun e w' => e = .returned (.bool (ltB n m)) ∧ Below w.heap.size w w' := by
  obtain ⟨h1, h2, hn, rfl, rfl, rfl⟩ := hw
  obtain ⟨-, -, hn', rfl, rfl, rfl⟩ := hw'
  by_cases h : HI n = HI m
  · have hl := lt_lo h
    have hq : (HI n != HI m) = false := by simp [h]
    have HL : Hid _ := hl
    clear h hl
    go_enter Try.func90, Try.ntmps90
    go_wp2_with fail
    go_ret
    exact ⟨ret_bool HL.out, by go_grown⟩
  · have hl := lt_hi h
    have hq : (HI n != HI m) = true := by simp [h]
    have HL : Hid _ := hl
    clear h hl
    go_enter Try.func90, Try.ntmps90
    go_wp2_with fail
    go_ret
    exact ⟨ret_bool HL.out, by go_grown⟩

theorem field_lo (a b c : Int) (w : World) : (Instr.field 24 (.agg #[.int .i64 a, .int .u64 b, .int .u64 c]) 1).run Try.prog w = .ok (.int .u64 b) w := by kernel_rfl
set_option maxHeartbeats 200000 in
theorem bool_any (b : Bool) (w : World) :
    Calls Try.prog 61 #[.bool b] w fun e w' => e = .returned (.agg #[.int .i64 0, .int .u64 (if b then 1 else 0), .int .u64 0]) ∧ Below w.heap.size w w' := by
  cases b
  · go_enter Try.func61, Try.ntmps61
    go_wp2_with fail
    refine bodyPost_ret (v := .agg #[.int .i64 0, .int .u64 0, .int .u64 0]) (by simp [results, Try.results61, go_sem]) rfl ?_
    exact ⟨rfl, by go_grown⟩
  · go_enter Try.func61, Try.ntmps61
    go_wp2_with fail
    refine bodyPost_ret (v := .agg #[.int .i64 0, .int .u64 1, .int .u64 0]) (by simp [results, Try.results61, go_sem]) rfl ?_
    exact ⟨rfl, by go_grown⟩

set_option maxHeartbeats 200000 in
theorem right_any {W n : Nat} {WW lo hi : Int} (hw : Wd WW lo hi W n) (w : World) :
    Calls Try.prog 28 #[.agg #[.int .i64 WW, .int .u64 lo, .int .u64 hi]] w fun e w' => e = .returned (.bool true) ∧ Below w.heap.size w w' := by
  have hbig := hw.big
  obtain ⟨h1, h2, hn, rfl, rfl, rfl⟩ := hw
  have hd : decide ((W : Int) < 0) = false := by simp only [decide_eq_false_iff_not]; omega
  have hd2 : decide ((128 : Int) < W) = false := by simp only [decide_eq_false_iff_not]; omega
  have hd3 : ((W : Int) == 0) = false := by simp; omega
  go_enter Try.func28, Try.ntmps28
  go_wp2_with fail
  go_region_held3 (fun x => x.cell? ⟨w.heap.size, 0, none⟩ = some (.int .i64 W) ∧ x.cell? ⟨w.heap.size, 1, none⟩ = some (.int .u64 (LO (n))) ∧ x.cell? ⟨w.heap.size, 2, none⟩ = some (.int .u64 (HI (n))) ∧ Below w.heap.size w x)
    ((first | (obtain ⟨q0, q1, q2, q3⟩ := ‹_ ∧ _ ∧ _ ∧ _›; with_reducible exact ⟨keep_cell hb q0, keep_cell hb q1, keep_cell hb q2, below_step q3 hb⟩) | (refine ⟨?_, ?_, ?_, ?_⟩ <;> first | (simp [go_sem]; done) | (refine cv_some ?_; simp [go_sem]; done) | go_grown)))
    ((first | (go_at_call 62; refine (cut_any (m := n) (r := n) h1 h2 hbig (Nat.mod_eq_of_lt hn) rfl rfl rfl _).mono ?_; rintro e w1 ⟨rfl, hb⟩)))
  obtain ⟨hq2_0, hq2_1, hq2_2, hBq2⟩ := ‹_ ∧ _ ∧ _ ∧ _›
  go_wp2_with fail
  go_ret
  exact ⟨rfl, by go_grown⟩

set_option maxHeartbeats 200000 in
theorem isWord_any {W n : Nat} {WW lo hi : Int} (hw : Wd WW lo hi W n) (w : World) :
    Calls Try.prog 65 #[.agg #[.int .i64 WW, .int .u64 lo, .int .u64 hi]] w fun e w' => e = .returned (.bool true) ∧ Below w.heap.size w w' := by
  obtain ⟨h1, h2, hn, rfl, rfl, rfl⟩ := hw
  have hd3 : ((W : Int) != 0) = true := by simp; omega
  go_enter Try.func65, Try.ntmps65
  go_wp2_with fail
  refine (right_any (Wd.mk' h1 h2 hn) _).mono ?_
  rintro e w1 ⟨rfl, hb1⟩
  have hb1' := below_step (w := w) (by go_grown) hb1
  have hs1 := hb1'.size
  have hz1_0 : w.heap.size < w1.heap.size := by have := hb1.size; (try simp at this); omega
  obtain ⟨hc1, hf1⟩ := bcell hb1
  go_wp2_with fail
  go_ret
  exact ⟨rfl, by go_grown⟩
end Go.Proofs.Ytnflphhckgeneaa

/- Plain facts on bits of numbers: no Go in sight. -/
namespace Go.Proofs.Ytnflphhckgeneaa

end Go.Proofs.Ytnflphhckgeneaa

/- Plain facts on long division: no Go in sight. -/
namespace Go.Proofs.Ytnflphhckgeneaa

end Go.Proofs.Ytnflphhckgeneaa

/- Contracts: long division. -/
namespace Go.Proofs.Ytnflphhckgeneaa
open Go.RowKit
set_option linter.unusedSimpArgs false
set_option linter.unusedVariables false

/-- Two numbers alike, as a Bool that no simp set opens. -/
def eqB (n m : Nat) : Bool := decide (n = m)
theorem halves {n m : Nat} (h : LO n = LO m) (h2 : HI n = HI m) : n = m := by
  unfold LO at h; unfold HI at h2; omega
theorem eq_w (W n m : Nat) (w : World) : (binOp .eql 24 (.agg #[.int .i64 W, .int .u64 (LO (n)), .int .u64 (HI (n))]) (.agg #[.int .i64 W, .int .u64 (LO (m)), .int .u64 (HI (m))])).run Try.prog w = .ok (.bool (eqB n m)) w := by
  simp only [eqB]
  by_cases h : n = m
  · subst h; simp [go_sem]
  · have e : decide (n = m) = false := by simp [h]
    rw [e]
    by_cases h1 : LO n = LO m
    · have h2 : ¬ HI n = HI m := fun h2 => h (halves h1 h2)
      simp [go_sem, h1, h2]
    · simp [go_sem, h1]
theorem eqB_no {n m : Nat} (h : n ≠ m) : eqB n m = false := by simp [eqB, h]
def dbl (W n : Nat) : Nat := n * 2 ^ 1 % 2 ^ W
end Go.Proofs.Ytnflphhckgeneaa
