import Derived.Test.YtedldoobmmhloaaH
import Derived.Test.YtedldoobmmhloaaC
namespace Go.Proofs.Ytedldoobmmhloaa
set_option maxHeartbeats 12800000
set_option maxRecDepth 100000
open Go.RowKit
set_option linter.unusedSimpArgs false
set_option linter.unusedVariables false
def udiv (W n m : Nat) : Nat := if m = 0 then 2 ^ W - 1 else n / m
def urem (n m : Nat) : Nat := if m = 0 then n else n % m
theorem udiv_lt {W n m : Nat} (h : n < 2 ^ W) : udiv W n m < 2 ^ W := by
 unfold udiv; have := Nat.two_pow_pos W; split
 ·omega
 ·exact Nat.lt_of_le_of_lt (Nat.div_le_self _ _) h
theorem urem_lt {W n m : Nat} (h : n < 2 ^ W) : urem n m < 2 ^ W := by
 unfold urem; split
 ·exact h
 ·exact Nat.lt_of_le_of_lt (Nat.mod_le _ _) h
theorem divide_zero {W n : Nat} {WW lo hi WW' lo' hi' : Int} (hw : Wd WW lo hi W n) (hw' : Wd WW' lo' hi' W 0) (w : World) :
  Calls Try.prog 97 #[.agg #[.int .i64 WW, .int .u64 lo, .int .u64 hi], .agg #[.int .i64 WW', .int .u64 lo', .int .u64 hi']] w fun e w' => e = .returned (.tuple #[.agg #[.int .i64 W, .int .u64 (LO (2 ^ W - 1)), .int .u64 (HI (2 ^ W - 1))], .agg #[.int .i64 W, .int .u64 (LO (n)), .int .u64 (HI (n))]]) ∧ Below w.heap.size w w' := by
 obtain ⟨h1, h2, hn, rfl, rfl, rfl⟩ := hw
 obtain ⟨-, -, hn', rfl, rfl, rfl⟩ := hw'
 have hqe := eq_w
 have hq0 : eqB 0 0 = true := eqB_yes rfl
 have hp := Nat.two_pow_pos W
 go_enter Try.func97, Try.ntmps97
 go_wp2_with fail
 refine (cut_any (m := 0) (r := 0) h1 h2 (by decide) (Nat.zero_mod _) rfl lo0 hi0 _).mono ?_
 rintro e w1 ⟨rfl, hb1⟩
 have hb1' := below_step (w := w) (by go_grown) hb1
 have hs1 := hb1'.size
 have KF1 : W3 w1 w.heap.size W n <| F3 w1 w.heap.size <| W3 w1 (w.heap.size + 1) W 0 <| F3 w1 (w.heap.size + 1) <| S3 w1 (w.heap.size + 1 + 1) <| F3 w1 (w.heap.size + 1 + 1) <| S3 w1 (w.heap.size + 1 + 1 + 1) <| F3 w1 (w.heap.size + 1 + 1 + 1) <| True := (by refine k3 hb1 ?_ ?_ ?_ <| f3 hb1 ?_ ?_ <| k3 hb1 ?_ ?_ ?_ <| f3 hb1 ?_ ?_ <| s3 hb1 ?_ ?_ ?_ <| f3 hb1 ?_ ?_ <| s3 hb1 ?_ ?_ ?_ <| f3 hb1 ?_ ?_ <| trivial <;> (first | (simp [go_sem]; done))); have KF1z0 := zT KF1; have KF1z1 := zT KF1.2.2.2.2; have KF1z2 := zT KF1.2.2.2.2.2.2.2.2; have KF1z3 := zT KF1.2.2.2.2.2.2.2.2.2.2.2.2
 clear hb1
 go_wp2_with fail
 go_region_with ((first | (go_at_call 80; refine (turn_any (Wd.mk' h1 h2 hp) _).mono ?_; rintro e wq ⟨rfl, hb⟩; have hb' := below_step (w := w) (by go_grown) hb; have hs := hb'.size; have KFr : W3 wq w.heap.size W n <| F3 wq w.heap.size <| W3 wq (w.heap.size + 1) W 0 <| F3 wq (w.heap.size + 1) <| S3 wq (w.heap.size + 1 + 1) <| F3 wq (w.heap.size + 1 + 1) <| S3 wq (w.heap.size + 1 + 1 + 1) <| F3 wq (w.heap.size + 1 + 1 + 1) <| W3 wq w1.heap.size W 0 <| (∀ o, wq.frozen? ⟨w1.heap.size, o, none⟩ = false) := (by refine k3 hb ?_ ?_ ?_ <| f3 hb ?_ ?_ <| k3 hb ?_ ?_ ?_ <| f3 hb ?_ ?_ <| s3 hb ?_ ?_ ?_ <| f3 hb ?_ ?_ <| s3 hb ?_ ?_ ?_ <| f3 hb ?_ ?_ <| k3 hb ?_ ?_ ?_ <| keep_frozen2 hb ?_ ?_ <;> (first | (simp [go_sem]; done) | (simp [go_sem, KFr]; done) | (simp [go_sem, KF1]; done) | (simp [go_sem, KFr, World.cell?_alloc_some]; done) | (simp [go_sem, KF1, World.cell?_alloc_some]; done) | (simp [go_sem, KFr, frozen?_alloc_cells]; done) | (simp [go_sem, KF1, frozen?_alloc_cells]; done))); have KFrz0 : w.heap.size < wq.heap.size := World.block_lt_of_cell? _ _ KFr.1; have KFrz1 : w.heap.size + 1 < wq.heap.size := World.block_lt_of_cell? _ _ KFr.2.2.2.2.1; have KFrz2 : w.heap.size + 1 + 1 < wq.heap.size := World.block_lt_of_cell? _ _ KFr.2.2.2.2.2.2.2.2.1; have KFrz3 : w.heap.size + 1 + 1 + 1 < wq.heap.size := World.block_lt_of_cell? _ _ KFr.2.2.2.2.2.2.2.2.2.2.2.2.1; have KFrz4 : w1.heap.size < wq.heap.size := World.block_lt_of_cell? _ _ KFr.2.2.2.2.2.2.2.2.2.2.2.2.2.2.2.2.1; clear hb)))
 all_goals
  go_wp2_with fail
  refine bodyPost_ret (v := .tuple #[.agg #[.int .i64 W, .int .u64 (LO (2 ^ W - 1)), .int .u64 (HI (2 ^ W - 1))], .agg #[.int .i64 W, .int .u64 (LO (n)), .int .u64 (HI (n))]]) (by simp [results, Try.results97, go_sem, KFr]) rfl ?_
  exact ⟨rfl, by go_grown⟩
theorem divide_full {W n m : Nat} {WW lo hi WW' lo' hi' : Int} (hw : Wd WW lo hi W n) (hw' : Wd WW' lo' hi' W m) (w : World) :
  Calls Try.prog 97 #[.agg #[.int .i64 WW, .int .u64 lo, .int .u64 hi], .agg #[.int .i64 WW', .int .u64 lo', .int .u64 hi']] w fun e w' => e = .returned (.tuple #[.agg #[.int .i64 W, .int .u64 (LO (udiv W n m)), .int .u64 (HI (udiv W n m))], .agg #[.int .i64 W, .int .u64 (LO (urem n m)), .int .u64 (HI (urem n m))]]) ∧ Below w.heap.size w w' := by
 by_cases h : m = 0
 ·subst h
  refine (divide_zero hw hw' w).mono ?_
  rintro e w1 ⟨rfl, hb⟩
  exact ⟨by simp [udiv, urem], hb⟩
 ·refine (divide_any hw hw' (by omega) w).mono ?_
  rintro e w1 ⟨rfl, hb⟩
  exact ⟨by simp [udiv, urem, h], hb⟩
theorem unsigned_div {W n m : Nat} {WW lo hi WW' lo' hi' : Int} (hw : Wd WW lo hi W n) (hw' : Wd WW' lo' hi' W m) (w : World) :
  Calls Try.prog 89 #[.int .i64 21, .agg #[.int .i64 WW, .int .u64 lo, .int .u64 hi], .agg #[.int .i64 WW', .int .u64 lo', .int .u64 hi']] w fun e w' => e = .returned (.agg #[.int .i64 W, .int .u64 (LO (udiv W n m)), .int .u64 (HI (udiv W n m))]) ∧ Below w.heap.size w w' := by
 obtain ⟨h1, h2, hn, rfl, rfl, rfl⟩ := hw
 obtain ⟨-, -, hn', rfl, rfl, rfl⟩ := hw'
 go_enter Try.func89, Try.ntmps89
 go_wp2_with fail
 refine (divide_full (Wd.mk' h1 h2 hn) (Wd.mk' h1 h2 hn') _).mono ?_
 rintro e w1 ⟨rfl, hb1⟩
 have hb1' := below_step (w := w) (by go_grown) hb1
 have hs1 := hb1'.size
 have KF1 : W3 w1 w.heap.size W n <| F3 w1 w.heap.size <| W3 w1 (w.heap.size + 1) W m <| F3 w1 (w.heap.size + 1) <| S3 w1 (w.heap.size + 1 + 1) <| F3 w1 (w.heap.size + 1 + 1) <| True := (by refine k3 hb1 ?_ ?_ ?_ <| f3 hb1 ?_ ?_ <| k3 hb1 ?_ ?_ ?_ <| f3 hb1 ?_ ?_ <| s3 hb1 ?_ ?_ ?_ <| f3 hb1 ?_ ?_ <| trivial <;> (first | (simp [go_sem]; done))); have KF1z0 := zT KF1; have KF1z1 := zT KF1.2.2.2.2; have KF1z2 := zT KF1.2.2.2.2.2.2.2.2
 clear hb1
 go_wp2_with fail
 refine bodyPost_ret (v := .agg #[.int .i64 W, .int .u64 (LO (udiv W n m)), .int .u64 (HI (udiv W n m))]) (by simp [results, Try.results89, go_sem, *]) rfl ?_
 exact ⟨rfl, by go_grown⟩
theorem unsigned_rem {W n m : Nat} {WW lo hi WW' lo' hi' : Int} (hw : Wd WW lo hi W n) (hw' : Wd WW' lo' hi' W m) (w : World) :
  Calls Try.prog 89 #[.int .i64 22, .agg #[.int .i64 WW, .int .u64 lo, .int .u64 hi], .agg #[.int .i64 WW', .int .u64 lo', .int .u64 hi']] w fun e w' => e = .returned (.agg #[.int .i64 W, .int .u64 (LO (urem n m)), .int .u64 (HI (urem n m))]) ∧ Below w.heap.size w w' := by
 obtain ⟨h1, h2, hn, rfl, rfl, rfl⟩ := hw
 obtain ⟨-, -, hn', rfl, rfl, rfl⟩ := hw'
 go_enter Try.func89, Try.ntmps89
 go_wp2_with fail
 refine (divide_full (Wd.mk' h1 h2 hn) (Wd.mk' h1 h2 hn') _).mono ?_
 rintro e w1 ⟨rfl, hb1⟩
 have hb1' := below_step (w := w) (by go_grown) hb1
 have hs1 := hb1'.size
 have KF1 : W3 w1 w.heap.size W n <| F3 w1 w.heap.size <| W3 w1 (w.heap.size + 1) W m <| F3 w1 (w.heap.size + 1) <| S3 w1 (w.heap.size + 1 + 1) <| F3 w1 (w.heap.size + 1 + 1) <| True := (by refine k3 hb1 ?_ ?_ ?_ <| f3 hb1 ?_ ?_ <| k3 hb1 ?_ ?_ ?_ <| f3 hb1 ?_ ?_ <| s3 hb1 ?_ ?_ ?_ <| f3 hb1 ?_ ?_ <| trivial <;> (first | (simp [go_sem]; done))); have KF1z0 := zT KF1; have KF1z1 := zT KF1.2.2.2.2; have KF1z2 := zT KF1.2.2.2.2.2.2.2.2
 clear hb1
 go_wp2_with fail
 refine bodyPost_ret (v := .agg #[.int .i64 W, .int .u64 (LO (urem n m)), .int .u64 (HI (urem n m))]) (by simp [results, Try.results89, go_sem, *]) rfl ?_
 exact ⟨rfl, by go_grown⟩
end Go.Proofs.Ytedldoobmmhloaa
