import Derived.Test.YtedldoobmmhloaaO
namespace Go.Proofs.Ytedldoobmmhloaa
set_option maxHeartbeats 12800000
set_option maxRecDepth 100000
open Go.RowKit
set_option linter.unusedSimpArgs false
set_option linter.unusedVariables false
theorem b01_lt (c : Bool) : b01 c < 2 := by cases c <;> decide
theorem two_comp {W n m : Nat} {c : Bool} {WW lo hi WW' lo' hi' : Int} (hc : eqB n m = c) (hw : Wd WW lo hi W n) (hw' : Wd WW' lo' hi' W m) (w : World) :
  Calls Try.prog 76 #[.int .i64 37, .agg #[.int .i64 WW, .int .u64 lo, .int .u64 hi], .agg #[.int .i64 WW', .int .u64 lo', .int .u64 hi']] w fun e w' => e = .returned (.tuple #[.agg #[.int .i64 1, .int .u64 (LO (b01 c)), .int .u64 (HI (b01 c))], .int .i64 0]) ∧ Below w.heap.size w w' := by
 obtain ⟨h1, h2, hn, rfl, rfl, rfl⟩ := hw
 obtain ⟨-, -, hn', rfl, rfl, rfl⟩ := hw'
 have hq : ∀ w, (binOp .eql 25 (.agg #[.int .i64 W, .int .u64 (LO (n)), .int .u64 (HI (n))]) (.agg #[.int .i64 W, .int .u64 (LO (m)), .int .u64 (HI (m))])).run Try.prog w = .ok (.bool c) w := fun w => by rw [← hc]; exact eq_w W n m w
 clear hc
 have HC : Hid (∀ wx, Calls Try.prog 34 #[.int .i64 1, .int .u64 (LO (b01 c)), .int .u64 0] wx fun e w' => e = .returned (.agg #[.int .i64 1, .int .u64 (LO (b01 c)), .int .u64 (HI (b01 c))]) ∧ Below wx.heap.size wx w') := fun wx =>
  cut_any (W := 1) (m := b01 c) (r := b01 c) (by decide) (by decide) (Nat.lt_of_lt_of_le (b01_lt c) (by decide)) (Nat.mod_eq_of_lt (b01_lt c)) rfl rfl (b01_hi c) wx
 have hfl := field_lo
 go_enter Try.func76, Try.ntmps76
 go_wp2_with fail
 refine (isWord_any (Wd.mk' h1 h2 hn) _).mono ?_
 rintro e w1 ⟨rfl, hb1⟩
 have hb1' := below_step (w := w) (by go_grown) hb1
 have hs1 := hb1'.size
 have KF1 : W3 w1 w.heap.size W n <| F3 w1 w.heap.size <| W3 w1 (w.heap.size + 1) W m <| F3 w1 (w.heap.size + 1) <| S3 w1 (w.heap.size + 1 + 1) <| F3 w1 (w.heap.size + 1 + 1) <| True := (by refine k3 hb1 ?_ ?_ ?_ <| f3 hb1 ?_ ?_ <| k3 hb1 ?_ ?_ ?_ <| f3 hb1 ?_ ?_ <| s3 hb1 ?_ ?_ ?_ <| f3 hb1 ?_ ?_ <| trivial <;> (first | (simp [go_sem]; done))); have KF1z0 := zT KF1; have KF1z1 := zT KF1.2.2.2.2; have KF1z2 := zT KF1.2.2.2.2.2.2.2.2
 clear hb1
 go_wp2_with fail
 refine (isWord_any (Wd.mk' h1 h2 hn') _).mono ?_
 rintro e w2 ⟨rfl, hb2⟩
 have hb2' := below_step (w := w) (by go_grown) hb2
 have hs2 := hb2'.size
 have KF2 : W3 w2 w.heap.size W n <| F3 w2 w.heap.size <| W3 w2 (w.heap.size + 1) W m <| F3 w2 (w.heap.size + 1) <| S3 w2 (w.heap.size + 1 + 1) <| F3 w2 (w.heap.size + 1 + 1) <| True := (by refine k3 hb2 ?_ ?_ ?_ <| f3 hb2 ?_ ?_ <| k3 hb2 ?_ ?_ ?_ <| f3 hb2 ?_ ?_ <| s3 hb2 ?_ ?_ ?_ <| f3 hb2 ?_ ?_ <| trivial <;> (first | (simp [go_sem]; done) | (simp [go_sem, KF1]; done) | (simp [go_sem, KF1, World.cell?_alloc_some, frozen?_alloc_cells]; done))); have KF2z0 := zT KF2; have KF2z1 := zT KF2.2.2.2.2; have KF2z2 := zT KF2.2.2.2.2.2.2.2.2
 clear hb2 KF1
 go_wp2_with fail
 refine (bool_b c _).mono ?_
 rintro e w3 ⟨rfl, hb3⟩
 have hb3' := below_step (w := w) (by go_grown) hb3
 have hs3 := hb3'.size
 have KF3 : W3 w3 w.heap.size W n <| F3 w3 w.heap.size <| W3 w3 (w.heap.size + 1) W m <| F3 w3 (w.heap.size + 1) <| S3 w3 (w.heap.size + 1 + 1) <| F3 w3 (w.heap.size + 1 + 1) <| True := (by refine k3 hb3 ?_ ?_ ?_ <| f3 hb3 ?_ ?_ <| k3 hb3 ?_ ?_ ?_ <| f3 hb3 ?_ ?_ <| s3 hb3 ?_ ?_ ?_ <| f3 hb3 ?_ ?_ <| trivial <;> (first | (simp [go_sem]; done) | (simp [go_sem, KF2]; done) | (simp [go_sem, KF2, World.cell?_alloc_some, frozen?_alloc_cells]; done))); have KF3z0 := zT KF3; have KF3z1 := zT KF3.2.2.2.2; have KF3z2 := zT KF3.2.2.2.2.2.2.2.2
 clear hb3 KF2
 go_wp2_with fail
 refine (HC.out _).mono ?_
 rintro e w4 ⟨rfl, hb4⟩
 have hb4' := below_step (w := w) (by go_grown) hb4
 have hs4 := hb4'.size
 have KF4 : W3 w4 w.heap.size W n <| F3 w4 w.heap.size <| W3 w4 (w.heap.size + 1) W m <| F3 w4 (w.heap.size + 1) <| S3 w4 (w.heap.size + 1 + 1) <| F3 w4 (w.heap.size + 1 + 1) <| True := (by refine k3 hb4 ?_ ?_ ?_ <| f3 hb4 ?_ ?_ <| k3 hb4 ?_ ?_ ?_ <| f3 hb4 ?_ ?_ <| s3 hb4 ?_ ?_ ?_ <| f3 hb4 ?_ ?_ <| trivial <;> (first | (simp [go_sem]; done) | (simp [go_sem, KF3]; done) | (simp [go_sem, KF3, World.cell?_alloc_some, frozen?_alloc_cells]; done))); have KF4z0 := zT KF4; have KF4z1 := zT KF4.2.2.2.2; have KF4z2 := zT KF4.2.2.2.2.2.2.2.2
 clear hb4 KF3
 go_wp2_with fail
 refine bodyPost_ret (v := .tuple #[.agg #[.int .i64 1, .int .u64 (LO (b01 c)), .int .u64 (HI (b01 c))], .int .i64 0]) (by simp [results, Try.results76, go_sem, *]) rfl ?_
 exact ⟨rfl, by go_grown⟩
end Go.Proofs.Ytedldoobmmhloaa
