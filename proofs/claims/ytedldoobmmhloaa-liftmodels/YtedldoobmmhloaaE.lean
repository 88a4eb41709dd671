import Derived.Test.YtedldoobmmhloaaC
namespace Go.Proofs.Ytedldoobmmhloaa
set_option maxHeartbeats 12800000
set_option maxRecDepth 100000
open Go.RowKit
set_option linter.unusedSimpArgs false
set_option linter.unusedVariables false
theorem above_any {W n V m : Nat} {WW lo hi WW' lo' hi' : Int} (hw : Wd WW lo hi W n) (hw' : Wd WW' lo' hi' V m) (hs : W + V ≤ 128) (w : World) :
  Calls Try.prog 82 #[.agg #[.int .i64 WW, .int .u64 lo, .int .u64 hi], .agg #[.int .i64 WW', .int .u64 lo', .int .u64 hi']] w fun e w' => e = .returned (.agg #[.int .i64 ((W : Int) + V), .int .u64 (LO (cat n V m)), .int .u64 (HI (cat n V m))]) ∧ Below w.heap.size w w' := by
 obtain ⟨h1, h2, hn, rfl, rfl, rfl⟩ := hw
 obtain ⟨h3, h4, hn', rfl, rfl, rfl⟩ := hw'
 have HC : Hid _ := cat_or (n := n) hn'
 have HM : Hid _ := Nat.mod_eq_of_lt (up_lt (V := V) hn)
 have a1 : n < 2 ^ (W + V) := Nat.lt_of_lt_of_le hn pow_le_add
 have a2 : m < 2 ^ (W + V) := Nat.lt_of_lt_of_le hn' pow_le_add'
 have a3 : n * 2 ^ V % 2 ^ (W + V) < 2 ^ (W + V) := mod_lt_W _ _
 have a4 : 1 ≤ W + V := by omega
 have a5 : n % 2 ^ (W + V) = n := Nat.mod_eq_of_lt a1
 have a6 : m % 2 ^ (W + V) = m := Nat.mod_eq_of_lt a2
 have H5 : Hid _ := a5
 have H6 : Hid _ := a6
 clear a5 a6
 have a7 : ((W : Int) + V) = ((W + V : Nat) : Int) := by omega
 have H7 : Hid _ := a7
 clear a7
 have a8 : V < 2 ^ 62 := by omega
 go_enter Try.func82, Try.ntmps82
 go_wp2_with fail
 go_region_held3 (fun x => x.cell? ⟨w.heap.size, 0, none⟩ = some (.int .i64 W) ∧ x.cell? ⟨w.heap.size, 1, none⟩ = some (.int .u64 (LO (n))) ∧ x.cell? ⟨w.heap.size, 2, none⟩ = some (.int .u64 (HI (n))) ∧ x.cell? ⟨w.heap.size + 1, 0, none⟩ = some (.int .i64 V) ∧ x.cell? ⟨w.heap.size + 1, 1, none⟩ = some (.int .u64 (LO (m))) ∧ x.cell? ⟨w.heap.size + 1, 2, none⟩ = some (.int .u64 (HI (m))) ∧ x.cell? ⟨w.heap.size + 1 + 1, 0, none⟩ = some (cv x ⟨w.heap.size + 1 + 1, 0, none⟩) ∧ x.cell? ⟨w.heap.size + 1 + 1, 1, none⟩ = some (cv x ⟨w.heap.size + 1 + 1, 1, none⟩) ∧ x.cell? ⟨w.heap.size + 1 + 1, 2, none⟩ = some (cv x ⟨w.heap.size + 1 + 1, 2, none⟩) ∧ (∀ o, x.frozen? ⟨w.heap.size + 1 + 1, o, none⟩ = false) ∧ Below w.heap.size w x)
  ((first | (obtain ⟨q0, q1, q2, q3, q4, q5, q6, q7, q8, q9, q10⟩ := ‹_ ∧ _ ∧ _ ∧ _ ∧ _ ∧ _ ∧ _ ∧ _ ∧ _ ∧ _ ∧ _›; with_reducible exact ⟨keep_cell hb q0, keep_cell hb q1, keep_cell hb q2, keep_cell hb q3, keep_cell hb q4, keep_cell hb q5, cv_of (keep_cell hb q6), cv_of (keep_cell hb q7), cv_of (keep_cell hb q8), keep_frozen hb q6 q9, below_step q10 hb⟩) | (obtain ⟨q0, q1, q2, q3, q4, q5, q6, q7, q8, q9, q10⟩ := ‹_ ∧ _ ∧ _ ∧ _ ∧ _ ∧ _ ∧ _ ∧ _ ∧ _ ∧ _ ∧ _›; with_reducible exact ⟨put_cell (by omega) q0, put_cell (by omega) q1, put_cell (by omega) q2, put_cell (by omega) q3, put_cell (by omega) q4, put_cell (by omega) q5, put_own0 q6, put_own1 q7, put_own2 q8, put_frozen q9, put_below q10 (by omega)⟩) | (refine ⟨?_, ?_, ?_, ?_, ?_, ?_, ?_, ?_, ?_, ?_, ?_⟩ <;> first | (simp [go_sem]; done) | (refine cv_some ?_; simp [go_sem]; done) | go_grown)))
  ((first | (go_at_call_of 85 (LO n); refine (widen_any (V := W + V) (m := n) (Wd.mk' h1 h2 hn) a4 hs H7.out H5.out _).mono ?_; rintro e w1 ⟨rfl, hb⟩) | (go_at_call_of 85 (LO m); refine (widen_any (V := W + V) (m := m) (Wd.mk' h3 h4 hn') a4 hs H7.out H6.out _).mono ?_; rintro e w1 ⟨rfl, hb⟩) | (go_at_call 87; refine (moveUp_any (W := W + V) (n := n) (k := V) ⟨a4, hs, a1, H7.out, rfl, rfl⟩ rfl a8 _).mono ?_; rintro e w1 ⟨rfl, hb⟩) | (go_at_call 86; refine (bitwise_or (W := W + V) (n := n * 2 ^ V % 2 ^ (W + V)) (m := m) ⟨a4, hs, a3, H7.out, rfl, rfl⟩ ⟨a4, hs, a2, H7.out, rfl, rfl⟩ _).mono ?_; rintro e w1 ⟨rfl, hb⟩)))
 obtain ⟨hq1_0, hq1_1, hq1_2, hq1_3, hq1_4, hq1_5, hR6, hR7, hR8, -, hBq1⟩ := ‹_ ∧ _ ∧ _ ∧ _ ∧ _ ∧ _ ∧ _ ∧ _ ∧ _ ∧ _ ∧ _›
 have HR6 : Hid _ := hR6
 clear hR6
 have HR7 : Hid _ := hR7
 clear hR7
 have HR8 : Hid _ := hR8
 clear hR8
 go_wp2_with fail
 refine bodyPost_ret (ret_bits rfl rfl (got0 HR6.out) (got1 HR7.out) (got2 HR8.out)) rfl ?_
 exact ⟨by rw [HM.out, HC.out], by go_grown⟩
theorem concat_any {W n V m : Nat} {WW lo hi WW' lo' hi' : Int} (hw : Wd WW lo hi W n) (hw' : Wd WW' lo' hi' V m) (hs : W + V ≤ 128) (w : World) :
  Calls Try.prog 66 #[.agg #[.int .i64 WW, .int .u64 lo, .int .u64 hi], .agg #[.int .i64 WW', .int .u64 lo', .int .u64 hi']] w fun e w' => e = .returned (.tuple #[.agg #[.int .i64 ((W : Int) + V), .int .u64 (LO (cat n V m)), .int .u64 (HI (cat n V m))], .int .i64 0]) ∧ Below w.heap.size w w' := by
 obtain ⟨h1, h2, hn, rfl, rfl, rfl⟩ := hw
 obtain ⟨h3, h4, hn', rfl, rfl, rfl⟩ := hw'
 go_enter Try.func66, Try.ntmps66
 go_wp2_with fail
 refine (isWord_any (Wd.mk' h1 h2 hn) _).mono ?_
 rintro e w1 ⟨rfl, hb1⟩
 have hb1' := below_step (w := w) (by go_grown) hb1
 have hs1 := hb1'.size
 have KF1 : W3 w1 w.heap.size W n <| F3 w1 w.heap.size <| W3 w1 (w.heap.size + 1) V m <| F3 w1 (w.heap.size + 1) <| S3 w1 (w.heap.size + 1 + 1) <| F3 w1 (w.heap.size + 1 + 1) <| True := (by refine k3 hb1 ?_ ?_ ?_ <| f3 hb1 ?_ ?_ <| k3 hb1 ?_ ?_ ?_ <| f3 hb1 ?_ ?_ <| s3 hb1 ?_ ?_ ?_ <| f3 hb1 ?_ ?_ <| trivial <;> (first | (simp [go_sem]; done))); have KF1z0 := zT KF1; have KF1z1 := zT KF1.2.2.2.2; have KF1z2 := zT KF1.2.2.2.2.2.2.2.2
 clear hb1
 go_wp2_with fail
 refine (isWord_any (Wd.mk' h3 h4 hn') _).mono ?_
 rintro e w2 ⟨rfl, hb2⟩
 have hb2' := below_step (w := w) (by go_grown) hb2
 have hs2 := hb2'.size
 have KF2 : W3 w2 w.heap.size W n <| F3 w2 w.heap.size <| W3 w2 (w.heap.size + 1) V m <| F3 w2 (w.heap.size + 1) <| S3 w2 (w.heap.size + 1 + 1) <| F3 w2 (w.heap.size + 1 + 1) <| True := (by refine k3 hb2 ?_ ?_ ?_ <| f3 hb2 ?_ ?_ <| k3 hb2 ?_ ?_ ?_ <| f3 hb2 ?_ ?_ <| s3 hb2 ?_ ?_ ?_ <| f3 hb2 ?_ ?_ <| trivial <;> (first | (simp [go_sem]; done) | (simp [go_sem, KF1]; done) | (simp [go_sem, KF1, World.cell?_alloc_some, frozen?_alloc_cells]; done))); have KF2z0 := zT KF2; have KF2z1 := zT KF2.2.2.2.2; have KF2z2 := zT KF2.2.2.2.2.2.2.2.2
 clear hb2 KF1
 go_wp2_with fail
 refine (above_any (Wd.mk' h1 h2 hn) (Wd.mk' h3 h4 hn') hs _).mono ?_
 rintro e w3 ⟨rfl, hb3⟩
 have hb3' := below_step (w := w) (by go_grown) hb3
 have hs3 := hb3'.size
 have KF3 : W3 w3 w.heap.size W n <| F3 w3 w.heap.size <| W3 w3 (w.heap.size + 1) V m <| F3 w3 (w.heap.size + 1) <| S3 w3 (w.heap.size + 1 + 1) <| F3 w3 (w.heap.size + 1 + 1) <| True := (by refine k3 hb3 ?_ ?_ ?_ <| f3 hb3 ?_ ?_ <| k3 hb3 ?_ ?_ ?_ <| f3 hb3 ?_ ?_ <| s3 hb3 ?_ ?_ ?_ <| f3 hb3 ?_ ?_ <| trivial <;> (first | (simp [go_sem]; done) | (simp [go_sem, KF2]; done) | (simp [go_sem, KF2, World.cell?_alloc_some, frozen?_alloc_cells]; done))); have KF3z0 := zT KF3; have KF3z1 := zT KF3.2.2.2.2; have KF3z2 := zT KF3.2.2.2.2.2.2.2.2
 clear hb3 KF2
 go_wp2_with fail
 refine bodyPost_ret (v := .tuple #[.agg #[.int .i64 ((W : Int) + V), .int .u64 (LO (cat n V m)), .int .u64 (HI (cat n V m))], .int .i64 0]) (by simp [results, Try.results66, go_sem, *]) rfl ?_
 exact ⟨rfl, by go_grown⟩
theorem extract_any {W n i j : Nat} {WW lo hi ii jj : Int} (hw : Wd WW lo hi W n) (hi1 : ii = i) (hj1 : jj = j) (hji : j ≤ i) (hiW : i < W) (w : World) :
  Calls Try.prog 68 #[.agg #[.int .i64 WW, .int .u64 lo, .int .u64 hi], .int .i64 ii, .int .i64 jj] w fun e w' => e = .returned (.tuple #[.agg #[.int .i64 ((i : Int) - j + 1), .int .u64 (LO (n / 2 ^ j % 2 ^ (i - j + 1))), .int .u64 (HI (n / 2 ^ j % 2 ^ (i - j + 1)))], .int .i64 0]) ∧ Below w.heap.size w w' := by
 have hbig := hw.big
 obtain ⟨h1, h2, hn, rfl, rfl, rfl⟩ := hw
 subst hi1 hj1
 have hdb : n / 2 ^ j < 2 ^ 128 := Nat.lt_of_le_of_lt (Nat.div_le_self _ _) hbig
 have HW : Hid (((i : Int) - j + 1) = ((i - j + 1 : Nat) : Int)) := by unfold Hid; omega
 go_enter Try.func68, Try.ntmps68
 go_wp2_with fail
 refine (isWord_any (Wd.mk' h1 h2 hn) _).mono ?_
 rintro e w1 ⟨rfl, hb1⟩
 have hb1' := below_step (w := w) (by go_grown) hb1
 have hs1 := hb1'.size
 have KF1 : W3 w1 w.heap.size W n <| F3 w1 w.heap.size <| S3 w1 (w.heap.size + 1) <| F3 w1 (w.heap.size + 1) <| True := (by refine k3 hb1 ?_ ?_ ?_ <| f3 hb1 ?_ ?_ <| s3 hb1 ?_ ?_ ?_ <| f3 hb1 ?_ ?_ <| trivial <;> (first | (simp [go_sem]; done))); have KF1z0 := zT KF1; have KF1z1 := zT KF1.2.2.2.2
 clear hb1
 go_wp2_with fail
 refine (moveDown_any (Wd.mk' h1 h2 hn) rfl (by omega) _).mono ?_
 rintro e w2 ⟨rfl, hb2⟩
 have hb2' := below_step (w := w) (by go_grown) hb2
 have hs2 := hb2'.size
 have KF2 : W3 w2 w.heap.size W n <| F3 w2 w.heap.size <| S3 w2 (w.heap.size + 1) <| F3 w2 (w.heap.size + 1) <| True := (by refine k3 hb2 ?_ ?_ ?_ <| f3 hb2 ?_ ?_ <| s3 hb2 ?_ ?_ ?_ <| f3 hb2 ?_ ?_ <| trivial <;> (first | (simp [go_sem]; done) | (simp [go_sem, KF1]; done) | (simp [go_sem, KF1, World.cell?_alloc_some, frozen?_alloc_cells]; done))); have KF2z0 := zT KF2; have KF2z1 := zT KF2.2.2.2.2
 clear hb2 KF1
 go_wp2_with fail
 refine (cut_any (W := i - j + 1) (m := n / 2 ^ j) (r := n / 2 ^ j % 2 ^ (i - j + 1)) (by omega) (by omega) hdb rfl HW.out rfl rfl _).mono ?_
 rintro e w3 ⟨rfl, hb3⟩
 have hb3' := below_step (w := w) (by go_grown) hb3
 have hs3 := hb3'.size
 have KF3 : W3 w3 w.heap.size W n <| F3 w3 w.heap.size <| S3 w3 (w.heap.size + 1) <| F3 w3 (w.heap.size + 1) <| W3 w3 w2.heap.size W (n / 2 ^ j) <| F3 w3 w2.heap.size <| True := (by refine k3 hb3 ?_ ?_ ?_ <| f3 hb3 ?_ ?_ <| s3 hb3 ?_ ?_ ?_ <| f3 hb3 ?_ ?_ <| k3 hb3 ?_ ?_ ?_ <| f3 hb3 ?_ ?_ <| trivial <;> (first | (simp [go_sem]; done) | (simp [go_sem, KF2]; done) | (simp [go_sem, KF2, World.cell?_alloc_some, frozen?_alloc_cells]; done))); have KF3z0 := zT KF3; have KF3z1 := zT KF3.2.2.2.2; have KF3z2 := zT KF3.2.2.2.2.2.2.2.2
 clear hb3 KF2
 rw [← HW.out]
 go_wp2_with fail
 refine bodyPost_ret (v := .tuple #[.agg #[.int .i64 ((i : Int) - j + 1), .int .u64 (LO (n / 2 ^ j % 2 ^ (i - j + 1))), .int .u64 (HI (n / 2 ^ j % 2 ^ (i - j + 1)))], .int .i64 0]) (by simp [results, Try.results68, go_sem, *]) rfl ?_
 exact ⟨rfl, by go_grown⟩
theorem extend_zero {W n k : Nat} {WW lo hi kk : Int} {b : Bool} (hw : Wd WW lo hi W n) (hk : kk = k) (hkW : W + k ≤ 128) (hb : b = false ∨ n.testBit (W - 1) = false) (w : World) :
  Calls Try.prog 70 #[.agg #[.int .i64 WW, .int .u64 lo, .int .u64 hi], .int .i64 kk, .bool b] w fun e w' => e = .returned (.tuple #[.agg #[.int .i64 ((W : Int) + k), .int .u64 (LO (n)), .int .u64 (HI (n))], .int .i64 0]) ∧ Below w.heap.size w w' := by
 obtain ⟨h1, h2, hn, rfl, rfl, rfl⟩ := hw
 subst hk
 have HW : Hid (((W : Int) + k) = ((W + k : Nat) : Int)) := by unfold Hid; omega
 have hlt : n % 2 ^ (W + k) = n := Nat.mod_eq_of_lt (Nat.lt_of_lt_of_le hn pow_le_add)
 have HL : Hid _ := hlt
 clear hlt
 cases b
 ·clear hb
  go_enter Try.func70, Try.ntmps70
  go_wp2_with fail
  refine (isWord_any (Wd.mk' h1 h2 hn) _).mono ?_
  rintro e w1 ⟨rfl, hb1⟩
  have hb1' := below_step (w := w) (by go_grown) hb1
  have hs1 := hb1'.size
  have KF1 : W3 w1 w.heap.size W n <| F3 w1 w.heap.size <| S3 w1 (w.heap.size + 1) <| F3 w1 (w.heap.size + 1) <| True := (by refine k3 hb1 ?_ ?_ ?_ <| f3 hb1 ?_ ?_ <| s3 hb1 ?_ ?_ ?_ <| f3 hb1 ?_ ?_ <| trivial <;> (first | (simp [go_sem]; done))); have KF1z0 := zT KF1; have KF1z1 := zT KF1.2.2.2.2
  clear hb1
  go_wp2_with fail
  refine (widen_any (V := W + k) (m := n) (Wd.mk' h1 h2 hn) (by omega) hkW HW.out HL.out _).mono ?_
  rintro e w2 ⟨rfl, hb2⟩
  have hb2' := below_step (w := w) (by go_grown) hb2
  have hs2 := hb2'.size
  have KF2 : W3 w2 w.heap.size W n <| F3 w2 w.heap.size <| S3 w2 (w.heap.size + 1) <| F3 w2 (w.heap.size + 1) <| True := (by refine k3 hb2 ?_ ?_ ?_ <| f3 hb2 ?_ ?_ <| s3 hb2 ?_ ?_ ?_ <| f3 hb2 ?_ ?_ <| trivial <;> (first | (simp [go_sem]; done) | (simp [go_sem, KF1]; done) | (simp [go_sem, KF1, World.cell?_alloc_some, frozen?_alloc_cells]; done))); have KF2z0 := zT KF2; have KF2z1 := zT KF2.2.2.2.2
  clear hb2 KF1
  rw [← HW.out]
  go_wp2_with fail
  refine bodyPost_ret (v := .tuple #[.agg #[.int .i64 ((W : Int) + k), .int .u64 (LO (n)), .int .u64 (HI (n))], .int .i64 0]) (by simp [results, Try.results70, go_sem, *]) rfl ?_
  exact ⟨rfl, by go_grown⟩
 ·have ht : n.testBit (W - 1) = false := by rcases hb with h | h; cases h; exact h
  clear hb
  go_enter Try.func70, Try.ntmps70
  go_wp2_with fail
  refine (isWord_any (Wd.mk' h1 h2 hn) _).mono ?_
  rintro e w1 ⟨rfl, hb1⟩
  have hb1' := below_step (w := w) (by go_grown) hb1
  have hs1 := hb1'.size
  have KF1 : W3 w1 w.heap.size W n <| F3 w1 w.heap.size <| S3 w1 (w.heap.size + 1) <| F3 w1 (w.heap.size + 1) <| True := (by refine k3 hb1 ?_ ?_ ?_ <| f3 hb1 ?_ ?_ <| s3 hb1 ?_ ?_ ?_ <| f3 hb1 ?_ ?_ <| trivial <;> (first | (simp [go_sem]; done))); have KF1z0 := zT KF1; have KF1z1 := zT KF1.2.2.2.2
  clear hb1
  go_wp2_with fail
  refine (isBelowZero_any (Wd.mk' h1 h2 hn) _).mono ?_
  rintro e w2 ⟨rfl, hb2⟩
  have hb2' := below_step (w := w) (by go_grown) hb2
  have hs2 := hb2'.size
  have KF2 : W3 w2 w.heap.size W n <| F3 w2 w.heap.size <| S3 w2 (w.heap.size + 1) <| F3 w2 (w.heap.size + 1) <| True := (by refine k3 hb2 ?_ ?_ ?_ <| f3 hb2 ?_ ?_ <| s3 hb2 ?_ ?_ ?_ <| f3 hb2 ?_ ?_ <| trivial <;> (first | (simp [go_sem]; done) | (simp [go_sem, KF1]; done) | (simp [go_sem, KF1, World.cell?_alloc_some, frozen?_alloc_cells]; done))); have KF2z0 := zT KF2; have KF2z1 := zT KF2.2.2.2.2
  clear hb2 KF1
  go_wp2_with fail
  refine (widen_any (V := W + k) (m := n) (Wd.mk' h1 h2 hn) (by omega) hkW HW.out HL.out _).mono ?_
  rintro e w3 ⟨rfl, hb3⟩
  have hb3' := below_step (w := w) (by go_grown) hb3
  have hs3 := hb3'.size
  have KF3 : W3 w3 w.heap.size W n <| F3 w3 w.heap.size <| S3 w3 (w.heap.size + 1) <| F3 w3 (w.heap.size + 1) <| True := (by refine k3 hb3 ?_ ?_ ?_ <| f3 hb3 ?_ ?_ <| s3 hb3 ?_ ?_ ?_ <| f3 hb3 ?_ ?_ <| trivial <;> (first | (simp [go_sem]; done) | (simp [go_sem, KF2]; done) | (simp [go_sem, KF2, World.cell?_alloc_some, frozen?_alloc_cells]; done))); have KF3z0 := zT KF3; have KF3z1 := zT KF3.2.2.2.2
  clear hb3 KF2
  rw [← HW.out]
  go_wp2_with fail
  refine bodyPost_ret (v := .tuple #[.agg #[.int .i64 ((W : Int) + k), .int .u64 (LO (n)), .int .u64 (HI (n))], .int .i64 0]) (by simp [results, Try.results70, go_sem, *]) rfl ?_
  exact ⟨rfl, by go_grown⟩
theorem extend_sign {W n k : Nat} {WW lo hi kk : Int} (hw : Wd WW lo hi W n) (hk : kk = k) (hkW : W + k ≤ 128) (ht : n.testBit (W - 1) = true) (w : World) :
  Calls Try.prog 70 #[.agg #[.int .i64 WW, .int .u64 lo, .int .u64 hi], .int .i64 kk, .bool true] w fun e w' => e = .returned (.tuple #[.agg #[.int .i64 ((W : Int) + k), .int .u64 (LO (wide W n k)), .int .u64 (HI (wide W n k))], .int .i64 0]) ∧ Below w.heap.size w w' := by
 obtain ⟨h1, h2, hn, rfl, rfl, rfl⟩ := hw
 subst hk
 have HW : Hid (((W : Int) + k) = ((W + k : Nat) : Int)) := by unfold Hid; omega
 have a1 : 2 ^ W - 1 - n < 2 ^ (W + k) := Nat.lt_of_lt_of_le (turn_lt n W) pow_le_add
 have HL : Hid _ := Nat.mod_eq_of_lt a1
 have a4 : 1 ≤ W + k := by omega
 go_enter Try.func70, Try.ntmps70
 go_wp2_with fail
 refine (isWord_any (Wd.mk' h1 h2 hn) _).mono ?_
 rintro e w1 ⟨rfl, hb1⟩
 have hb1' := below_step (w := w) (by go_grown) hb1
 have hs1 := hb1'.size
 have KF1 : W3 w1 w.heap.size W n <| F3 w1 w.heap.size <| S3 w1 (w.heap.size + 1) <| F3 w1 (w.heap.size + 1) <| True := (by refine k3 hb1 ?_ ?_ ?_ <| f3 hb1 ?_ ?_ <| s3 hb1 ?_ ?_ ?_ <| f3 hb1 ?_ ?_ <| trivial <;> (first | (simp [go_sem]; done))); have KF1z0 := zT KF1; have KF1z1 := zT KF1.2.2.2.2
 clear hb1
 go_wp2_with fail
 refine (isBelowZero_any (Wd.mk' h1 h2 hn) _).mono ?_
 rintro e w2 ⟨rfl, hb2⟩
 have hb2' := below_step (w := w) (by go_grown) hb2
 have hs2 := hb2'.size
 have KF2 : W3 w2 w.heap.size W n <| F3 w2 w.heap.size <| S3 w2 (w.heap.size + 1) <| F3 w2 (w.heap.size + 1) <| True := (by refine k3 hb2 ?_ ?_ ?_ <| f3 hb2 ?_ ?_ <| s3 hb2 ?_ ?_ ?_ <| f3 hb2 ?_ ?_ <| trivial <;> (first | (simp [go_sem]; done) | (simp [go_sem, KF1]; done) | (simp [go_sem, KF1, World.cell?_alloc_some, frozen?_alloc_cells]; done))); have KF2z0 := zT KF2; have KF2z1 := zT KF2.2.2.2.2
 clear hb2 KF1
 have HX : Hid (IntKind.i64.wrap ((W : Int) + k) = ((W + k : Nat) : Int)) := wrap_nat HW.out (by omega)
 go_wp2_with fail
 go_region_held3 (fun x => x.cell? ⟨w.heap.size, 0, none⟩ = some (.int .i64 W) ∧ x.cell? ⟨w.heap.size, 1, none⟩ = some (.int .u64 (LO (n))) ∧ x.cell? ⟨w.heap.size, 2, none⟩ = some (.int .u64 (HI (n))) ∧ x.cell? ⟨w.heap.size + 1, 0, none⟩ = some (cv x ⟨w.heap.size + 1, 0, none⟩) ∧ x.cell? ⟨w.heap.size + 1, 1, none⟩ = some (cv x ⟨w.heap.size + 1, 1, none⟩) ∧ x.cell? ⟨w.heap.size + 1, 2, none⟩ = some (cv x ⟨w.heap.size + 1, 2, none⟩) ∧ (∀ o, x.frozen? ⟨w.heap.size + 1, o, none⟩ = false) ∧ Below w.heap.size w x)
  ((first | (obtain ⟨q0, q1, q2, q3, q4, q5, q6, q7⟩ := ‹_ ∧ _ ∧ _ ∧ _ ∧ _ ∧ _ ∧ _ ∧ _›; with_reducible exact ⟨keep_cell hb q0, keep_cell hb q1, keep_cell hb q2, cv_of (keep_cell hb q3), cv_of (keep_cell hb q4), cv_of (keep_cell hb q5), keep_frozen hb q3 q6, below_step q7 hb⟩) | (obtain ⟨q0, q1, q2, q3, q4, q5, q6, q7⟩ := ‹_ ∧ _ ∧ _ ∧ _ ∧ _ ∧ _ ∧ _ ∧ _›; with_reducible exact ⟨put_cell (by omega) q0, put_cell (by omega) q1, put_cell (by omega) q2, put_own0 q3, put_own1 q4, put_own2 q5, put_frozen q6, put_below q7 (by omega)⟩) | (refine ⟨?_, ?_, ?_, ?_, ?_, ?_, ?_, ?_⟩ <;> first | (simp [go_sem]; done) | (refine cv_some ?_; simp [go_sem]; done) | (simp [go_sem, KF2]; done) | (refine cv_some ?_; simp [go_sem, KF2]; done) | go_grown)))
  ((first | (go_at_call_of 80 (LO n); refine (turn_any (Wd.mk' h1 h2 hn) _).mono ?_; rintro e w1 ⟨rfl, hb⟩) | (go_at_call 85; refine (widen_any (V := W + k) (m := 2 ^ W - 1 - n) (Wd.mk' h1 h2 (turn_lt n W)) a4 hkW HX.out HL.out _).mono ?_; rintro e w1 ⟨rfl, hb⟩) | (go_at_call 80; refine (turn_any (W := W + k) (n := 2 ^ W - 1 - n) ⟨a4, hkW, a1, HW.out, rfl, rfl⟩ _).mono ?_; rintro e w1 ⟨rfl, hb⟩)))
 obtain ⟨hq2_0, hq2_1, hq2_2, hR3, hR4, hR5, -, hBq2⟩ := ‹_ ∧ _ ∧ _ ∧ _ ∧ _ ∧ _ ∧ _ ∧ _›
 have HR3 : Hid _ := hR3
 clear hR3
 have HR4 : Hid _ := hR4
 clear hR4
 have HR5 : Hid _ := hR5
 clear hR5
 go_wp2_with fail
 refine bodyPost_ret (ret_bits2 rfl rfl rfl (got0 HR3.out) (got1 HR4.out) (got2 HR5.out)) rfl ?_
 exact ⟨rfl, by go_grown⟩
theorem rotate_left {W n k : Nat} {WW lo hi kk : Int} (hw : Wd WW lo hi W n) (hk : kk = k) (hk2 : k < 2 ^ 63) (w : World) :
  Calls Try.prog 72 #[.agg #[.int .i64 WW, .int .u64 lo, .int .u64 hi], .int .i64 kk, .bool true] w fun e w' => e = .returned (.tuple #[.agg #[.int .i64 W, .int .u64 (LO (rot W n (k % W))), .int .u64 (HI (rot W n (k % W)))], .int .i64 0]) ∧ Below w.heap.size w w' := by
 obtain ⟨h1, h2, hn, rfl, rfl, rfl⟩ := hw
 subst hk
 have a1 : n * 2 ^ (k % W) % 2 ^ W < 2 ^ W := mod_lt_W _ W
 have a2 : n / 2 ^ (W - (k % W)) < 2 ^ W := Nat.lt_of_le_of_lt (Nat.div_le_self _ _) hn
 have a3 : k % W < W := Nat.mod_lt _ h1
 have a4 : (0 : Int) ≤ k := by omega
 have H1 : Hid ((k : Int) % W = ((k % W : Nat) : Int)) := (Int.natCast_emod k W).symm
 have H2 : Hid (IntKind.i64.wrap ((W : Int) - (k : Int) % W) = ((W - k % W : Nat) : Int)) := wrap_nat (sub_mod_nat h1) (by omega)
 have m0 : (0 : Int) ≤ (k : Int) % W := Int.emod_nonneg _ (by omega)
 have m1 : (k : Int) % W < W := Int.emod_lt_of_pos _ (by omega)
 have a5 : k % W < 2 ^ 62 := by omega
 have a6 : W - (k % W) < 2 ^ 62 := by omega
 go_enter Try.func72, Try.ntmps72
 go_wp2_with fail
 refine (isWord_any (Wd.mk' h1 h2 hn) _).mono ?_
 rintro e w1 ⟨rfl, hb1⟩
 have hb1' := below_step (w := w) (by go_grown) hb1
 have hs1 := hb1'.size
 have KF1 : W3 w1 w.heap.size W n <| F3 w1 w.heap.size <| S3 w1 (w.heap.size + 1) <| F3 w1 (w.heap.size + 1) <| True := (by refine k3 hb1 ?_ ?_ ?_ <| f3 hb1 ?_ ?_ <| s3 hb1 ?_ ?_ ?_ <| f3 hb1 ?_ ?_ <| trivial <;> (first | (simp [go_sem]; done))); have KF1z0 := zT KF1; have KF1z1 := zT KF1.2.2.2.2
 clear hb1
 go_wp2_with fail
 go_region_held3 (fun x => x.cell? ⟨w.heap.size, 0, none⟩ = some (.int .i64 W) ∧ x.cell? ⟨w.heap.size, 1, none⟩ = some (.int .u64 (LO (n))) ∧ x.cell? ⟨w.heap.size, 2, none⟩ = some (.int .u64 (HI (n))) ∧ x.cell? ⟨w.heap.size + 1, 0, none⟩ = some (cv x ⟨w.heap.size + 1, 0, none⟩) ∧ x.cell? ⟨w.heap.size + 1, 1, none⟩ = some (cv x ⟨w.heap.size + 1, 1, none⟩) ∧ x.cell? ⟨w.heap.size + 1, 2, none⟩ = some (cv x ⟨w.heap.size + 1, 2, none⟩) ∧ (∀ o, x.frozen? ⟨w.heap.size + 1, o, none⟩ = false) ∧ Below w.heap.size w x)
  ((first | (obtain ⟨q0, q1, q2, q3, q4, q5, q6, q7⟩ := ‹_ ∧ _ ∧ _ ∧ _ ∧ _ ∧ _ ∧ _ ∧ _›; with_reducible exact ⟨keep_cell hb q0, keep_cell hb q1, keep_cell hb q2, cv_of (keep_cell hb q3), cv_of (keep_cell hb q4), cv_of (keep_cell hb q5), keep_frozen hb q3 q6, below_step q7 hb⟩) | (obtain ⟨q0, q1, q2, q3, q4, q5, q6, q7⟩ := ‹_ ∧ _ ∧ _ ∧ _ ∧ _ ∧ _ ∧ _ ∧ _›; with_reducible exact ⟨put_cell (by omega) q0, put_cell (by omega) q1, put_cell (by omega) q2, put_own0 q3, put_own1 q4, put_own2 q5, put_frozen q6, put_below q7 (by omega)⟩) | (refine ⟨?_, ?_, ?_, ?_, ?_, ?_, ?_, ?_⟩ <;> first | (simp [go_sem]; done) | (refine cv_some ?_; simp [go_sem]; done) | (simp [go_sem, KF1]; done) | (refine cv_some ?_; simp [go_sem, KF1]; done) | go_grown)))
  ((first | (go_at_call 87; refine (moveUp_any (k := k % W) (Wd.mk' h1 h2 hn) H1.out a5 _).mono ?_; rintro e w1 ⟨rfl, hb⟩) | (go_at_call 83; refine (moveDown_any (k := W - (k % W)) (Wd.mk' h1 h2 hn) H2.out a6 _).mono ?_; rintro e w1 ⟨rfl, hb⟩) | (go_at_call 86; refine (bitwise_or (n := n * 2 ^ (k % W) % 2 ^ W) (m := n / 2 ^ (W - (k % W))) (Wd.mk' h1 h2 a1) (Wd.mk' h1 h2 a2) _).mono ?_; rintro e w1 ⟨rfl, hb⟩)))
 obtain ⟨hq3_0, hq3_1, hq3_2, hR3, hR4, hR5, -, hBq3⟩ := ‹_ ∧ _ ∧ _ ∧ _ ∧ _ ∧ _ ∧ _ ∧ _›
 have HR3 : Hid _ := hR3
 clear hR3
 have HR4 : Hid _ := hR4
 clear hR4
 have HR5 : Hid _ := hR5
 clear hR5
 go_wp2_with fail
 refine bodyPost_ret (ret_bits2 rfl rfl rfl (got0 HR3.out) (got1 HR4.out) (got2 HR5.out)) rfl ?_
 exact ⟨rfl, by go_grown⟩
theorem rotate_right {W n k : Nat} {WW lo hi kk : Int} (hw : Wd WW lo hi W n) (hk : kk = k) (hk2 : k < 2 ^ 63) (w : World) :
  Calls Try.prog 72 #[.agg #[.int .i64 WW, .int .u64 lo, .int .u64 hi], .int .i64 kk, .bool false] w fun e w' => e = .returned (.tuple #[.agg #[.int .i64 W, .int .u64 (LO (rot W n (W - k % W))), .int .u64 (HI (rot W n (W - k % W)))], .int .i64 0]) ∧ Below w.heap.size w w' := by
 obtain ⟨h1, h2, hn, rfl, rfl, rfl⟩ := hw
 subst hk
 have a1 : n * 2 ^ (W - k % W) % 2 ^ W < 2 ^ W := mod_lt_W _ W
 have a2 : n / 2 ^ (W - (W - k % W)) < 2 ^ W := Nat.lt_of_le_of_lt (Nat.div_le_self _ _) hn
 have a3 : k % W < W := Nat.mod_lt _ h1
 have a4 : (0 : Int) ≤ k := by omega
 have H1 : Hid ((W : Int) - (k : Int) % W = ((W - k % W : Nat) : Int)) := sub_mod_nat h1
 have H2 : Hid (IntKind.i64.wrap ((W : Int) - ((W : Int) - (k : Int) % W)) = ((W - (W - k % W) : Nat) : Int)) := wrap_nat (sub_sub_mod_nat h1) (by omega)
 have m0 : (0 : Int) ≤ (k : Int) % W := Int.emod_nonneg _ (by omega)
 have m1 : (k : Int) % W < W := Int.emod_lt_of_pos _ (by omega)
 have a5 : W - k % W < 2 ^ 62 := by omega
 have a6 : W - (W - k % W) < 2 ^ 62 := by omega
 go_enter Try.func72, Try.ntmps72
 go_wp2_with fail
 refine (isWord_any (Wd.mk' h1 h2 hn) _).mono ?_
 rintro e w1 ⟨rfl, hb1⟩
 have hb1' := below_step (w := w) (by go_grown) hb1
 have hs1 := hb1'.size
 have KF1 : W3 w1 w.heap.size W n <| F3 w1 w.heap.size <| S3 w1 (w.heap.size + 1) <| F3 w1 (w.heap.size + 1) <| True := (by refine k3 hb1 ?_ ?_ ?_ <| f3 hb1 ?_ ?_ <| s3 hb1 ?_ ?_ ?_ <| f3 hb1 ?_ ?_ <| trivial <;> (first | (simp [go_sem]; done))); have KF1z0 := zT KF1; have KF1z1 := zT KF1.2.2.2.2
 clear hb1
 go_wp2_with fail
 go_region_held3 (fun x => x.cell? ⟨w.heap.size, 0, none⟩ = some (.int .i64 W) ∧ x.cell? ⟨w.heap.size, 1, none⟩ = some (.int .u64 (LO (n))) ∧ x.cell? ⟨w.heap.size, 2, none⟩ = some (.int .u64 (HI (n))) ∧ x.cell? ⟨w.heap.size + 1, 0, none⟩ = some (cv x ⟨w.heap.size + 1, 0, none⟩) ∧ x.cell? ⟨w.heap.size + 1, 1, none⟩ = some (cv x ⟨w.heap.size + 1, 1, none⟩) ∧ x.cell? ⟨w.heap.size + 1, 2, none⟩ = some (cv x ⟨w.heap.size + 1, 2, none⟩) ∧ (∀ o, x.frozen? ⟨w.heap.size + 1, o, none⟩ = false) ∧ Below w.heap.size w x)
  ((first | (obtain ⟨q0, q1, q2, q3, q4, q5, q6, q7⟩ := ‹_ ∧ _ ∧ _ ∧ _ ∧ _ ∧ _ ∧ _ ∧ _›; with_reducible exact ⟨keep_cell hb q0, keep_cell hb q1, keep_cell hb q2, cv_of (keep_cell hb q3), cv_of (keep_cell hb q4), cv_of (keep_cell hb q5), keep_frozen hb q3 q6, below_step q7 hb⟩) | (obtain ⟨q0, q1, q2, q3, q4, q5, q6, q7⟩ := ‹_ ∧ _ ∧ _ ∧ _ ∧ _ ∧ _ ∧ _ ∧ _›; with_reducible exact ⟨put_cell (by omega) q0, put_cell (by omega) q1, put_cell (by omega) q2, put_own0 q3, put_own1 q4, put_own2 q5, put_frozen q6, put_below q7 (by omega)⟩) | (refine ⟨?_, ?_, ?_, ?_, ?_, ?_, ?_, ?_⟩ <;> first | (simp [go_sem]; done) | (refine cv_some ?_; simp [go_sem]; done) | (simp [go_sem, KF1]; done) | (refine cv_some ?_; simp [go_sem, KF1]; done) | go_grown)))
  ((first | (go_at_call 87; refine (moveUp_any (k := W - k % W) (Wd.mk' h1 h2 hn) H1.out a5 _).mono ?_; rintro e w1 ⟨rfl, hb⟩) | (go_at_call 83; refine (moveDown_any (k := W - (W - k % W)) (Wd.mk' h1 h2 hn) H2.out a6 _).mono ?_; rintro e w1 ⟨rfl, hb⟩) | (go_at_call 86; refine (bitwise_or (n := n * 2 ^ (W - k % W) % 2 ^ W) (m := n / 2 ^ (W - (W - k % W))) (Wd.mk' h1 h2 a1) (Wd.mk' h1 h2 a2) _).mono ?_; rintro e w1 ⟨rfl, hb⟩)))
 obtain ⟨hq4_0, hq4_1, hq4_2, hR3, hR4, hR5, -, hBq4⟩ := ‹_ ∧ _ ∧ _ ∧ _ ∧ _ ∧ _ ∧ _ ∧ _›
 have HR3 : Hid _ := hR3
 clear hR3
 have HR4 : Hid _ := hR4
 clear hR4
 have HR5 : Hid _ := hR5
 clear hR5
 go_wp2_with fail
 refine bodyPost_ret (ret_bits2 rfl rfl rfl (got0 HR3.out) (got1 HR4.out) (got2 HR5.out)) rfl ?_
 exact ⟨rfl, by go_grown⟩
theorem one_not {W n : Nat} {WW lo hi : Int} (hw : Wd WW lo hi W n) (w : World) :
  Calls Try.prog 64 #[.int .i64 10, .agg #[.int .i64 WW, .int .u64 lo, .int .u64 hi]] w fun e w' => e = .returned (.tuple #[.agg #[.int .i64 W, .int .u64 (LO (2 ^ W - 1 - n)), .int .u64 (HI (2 ^ W - 1 - n))], .int .i64 0]) ∧ Below w.heap.size w w' := by
 obtain ⟨h1, h2, hn, rfl, rfl, rfl⟩ := hw
 go_enter Try.func64, Try.ntmps64
 go_wp2_with fail
 refine (isWord_any (Wd.mk' h1 h2 hn) _).mono ?_
 rintro e w1 ⟨rfl, hb1⟩
 have hb1' := below_step (w := w) (by go_grown) hb1
 have hs1 := hb1'.size
 have KF1 : W3 w1 w.heap.size W n <| F3 w1 w.heap.size <| S3 w1 (w.heap.size + 1) <| F3 w1 (w.heap.size + 1) <| True := (by refine k3 hb1 ?_ ?_ ?_ <| f3 hb1 ?_ ?_ <| s3 hb1 ?_ ?_ ?_ <| f3 hb1 ?_ ?_ <| trivial <;> (first | (simp [go_sem]; done))); have KF1z0 := zT KF1; have KF1z1 := zT KF1.2.2.2.2
 clear hb1
 go_wp2_with fail
 refine (turn_any (Wd.mk' h1 h2 hn) _).mono ?_
 rintro e w2 ⟨rfl, hb2⟩
 have hb2' := below_step (w := w) (by go_grown) hb2
 have hs2 := hb2'.size
 have KF2 : W3 w2 w.heap.size W n <| F3 w2 w.heap.size <| S3 w2 (w.heap.size + 1) <| F3 w2 (w.heap.size + 1) <| True := (by refine k3 hb2 ?_ ?_ ?_ <| f3 hb2 ?_ ?_ <| s3 hb2 ?_ ?_ ?_ <| f3 hb2 ?_ ?_ <| trivial <;> (first | (simp [go_sem]; done) | (simp [go_sem, KF1]; done) | (simp [go_sem, KF1, World.cell?_alloc_some, frozen?_alloc_cells]; done))); have KF2z0 := zT KF2; have KF2z1 := zT KF2.2.2.2.2
 clear hb2 KF1
 go_wp2_with fail
 refine bodyPost_ret (v := .tuple #[.agg #[.int .i64 W, .int .u64 (LO (2 ^ W - 1 - n)), .int .u64 (HI (2 ^ W - 1 - n))], .int .i64 0]) (by simp [results, Try.results64, go_sem, *]) rfl ?_
 exact ⟨rfl, by go_grown⟩
theorem one_neg {W n : Nat} {WW lo hi : Int} (hw : Wd WW lo hi W n) (w : World) :
  Calls Try.prog 64 #[.int .i64 11, .agg #[.int .i64 WW, .int .u64 lo, .int .u64 hi]] w fun e w' => e = .returned (.tuple #[.agg #[.int .i64 W, .int .u64 (LO (neg W n)), .int .u64 (HI (neg W n))], .int .i64 0]) ∧ Below w.heap.size w w' := by
 obtain ⟨h1, h2, hn, rfl, rfl, rfl⟩ := hw
 go_enter Try.func64, Try.ntmps64
 go_wp2_with fail
 refine (isWord_any (Wd.mk' h1 h2 hn) _).mono ?_
 rintro e w1 ⟨rfl, hb1⟩
 have hb1' := below_step (w := w) (by go_grown) hb1
 have hs1 := hb1'.size
 have KF1 : W3 w1 w.heap.size W n <| F3 w1 w.heap.size <| S3 w1 (w.heap.size + 1) <| F3 w1 (w.heap.size + 1) <| True := (by refine k3 hb1 ?_ ?_ ?_ <| f3 hb1 ?_ ?_ <| s3 hb1 ?_ ?_ ?_ <| f3 hb1 ?_ ?_ <| trivial <;> (first | (simp [go_sem]; done))); have KF1z0 := zT KF1; have KF1z1 := zT KF1.2.2.2.2
 clear hb1
 go_wp2_with fail
 refine (negate_any (Wd.mk' h1 h2 hn) _).mono ?_
 rintro e w2 ⟨rfl, hb2⟩
 have hb2' := below_step (w := w) (by go_grown) hb2
 have hs2 := hb2'.size
 have KF2 : W3 w2 w.heap.size W n <| F3 w2 w.heap.size <| S3 w2 (w.heap.size + 1) <| F3 w2 (w.heap.size + 1) <| True := (by refine k3 hb2 ?_ ?_ ?_ <| f3 hb2 ?_ ?_ <| s3 hb2 ?_ ?_ ?_ <| f3 hb2 ?_ ?_ <| trivial <;> (first | (simp [go_sem]; done) | (simp [go_sem, KF1]; done) | (simp [go_sem, KF1, World.cell?_alloc_some, frozen?_alloc_cells]; done))); have KF2z0 := zT KF2; have KF2z1 := zT KF2.2.2.2.2
 clear hb2 KF1
 go_wp2_with fail
 refine bodyPost_ret (v := .tuple #[.agg #[.int .i64 W, .int .u64 (LO (neg W n)), .int .u64 (HI (neg W n))], .int .i64 0]) (by simp [results, Try.results64, go_sem, *]) rfl ?_
 exact ⟨rfl, by go_grown⟩
end Go.Proofs.Ytedldoobmmhloaa
