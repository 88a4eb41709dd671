import Derived.Test.YtedldoobmmhloaaMg6
namespace Go.Proofs.Ytedldoobmmhloaa
set_option maxHeartbeats 12800000
set_option maxRecDepth 100000
open Go.RowKit
set_option linter.unusedSimpArgs false
set_option linter.unusedVariables false
def eqB (n m : Nat) : Bool := decide (n = m)
theorem halves {n m : Nat} (h : LO n = LO m) (h2 : HI n = HI m) : n = m := by
 unfold LO at h; unfold HI at h2; omega
theorem eq_w (W n m : Nat) (w : World) : (binOp .eql 25 (.agg #[.int .i64 W, .int .u64 (LO (n)), .int .u64 (HI (n))]) (.agg #[.int .i64 W, .int .u64 (LO (m)), .int .u64 (HI (m))])).run Try.prog w = .ok (.bool (eqB n m)) w := by
 simp only [eqB]
 by_cases h : n = m
 ·subst h; simp [go_sem]
 ·have e : decide (n = m) = false := by simp [h]
  rw [e]
  by_cases h1 : LO n = LO m
  ·have h2 : ¬ HI n = HI m := fun h2 => h (halves h1 h2)
   simp [go_sem, h1, h2]
  ·simp [go_sem, h1]
theorem neq_w (W n m : Nat) (w : World) : (binOp .neq 25 (.agg #[.int .i64 W, .int .u64 (LO (n)), .int .u64 (HI (n))]) (.agg #[.int .i64 W, .int .u64 (LO (m)), .int .u64 (HI (m))])).run Try.prog w = .ok (.bool (!eqB n m)) w := by
 simp only [eqB]
 by_cases h : n = m
 ·subst h; simp [go_sem]
 ·have e : decide (n = m) = false := by simp [h]
  rw [e]
  by_cases h1 : LO n = LO m
  ·have h2 : ¬ HI n = HI m := fun h2 => h (halves h1 h2)
   simp [go_sem, h1, h2]
  ·simp [go_sem, h1]
theorem eqB_no {n m : Nat} (h : n ≠ m) : eqB n m = false := by simp [eqB, h]
theorem eqB_yes {n m : Nat} (h : n = m) : eqB n m = true := by simp [eqB, h]
def dbl (W n : Nat) : Nat := n * 2 ^ 1 % 2 ^ W
theorem dbl_lt (W n : Nat) : dbl W n < 2 ^ W := mod_lt_W _ W
theorem dbl_any {W n : Nat} {WW lo hi : Int} (hw : Wd WW lo hi W n) (w : World) :
 Calls Try.prog 87 #[.agg #[.int .i64 WW, .int .u64 lo, .int .u64 hi], .int .i64 1] w fun e w' => e = .returned (.agg #[.int .i64 W, .int .u64 (LO (dbl W n)), .int .u64 (HI (dbl W n))]) ∧ Below w.heap.size w w' := moveUp_any (k := 1) hw rfl (by decide) w
theorem dbl_even {W r : Nat} (h1 : 1 ≤ W) : dbl W r % 2 = 0 := twice_even h1
theorem dbl_succ {W r : Nat} (h1 : 1 ≤ W) : dbl W r + 1 < 2 ^ W := by
 have a := dbl_lt W r
 have b := dbl_even (r := r) h1
 have c := pow_pred h1
 omega
theorem ltB_yes {n m : Nat} (h : n < m) : ltB n m = true := by simp [ltB, h]
theorem ltB_no {n m : Nat} (h : ¬ n < m) : ltB n m = false := by simp [ltB, h]
theorem sub_res {W S m r : Nat} (h : S + 2 ^ W = r + m ∨ S = r + m) (hr : r < 2 ^ W) (hm : m < 2 ^ W) : (S + (2 ^ W - m)) % 2 ^ W = r := by
 rcases h with h | h
 ·rw [show S + (2 ^ W - m) = r from by omega, Nat.mod_eq_of_lt hr]
 ·rw [show S + (2 ^ W - m) = r + 2 ^ W from by omega, Nat.add_mod_right, Nat.mod_eq_of_lt hr]
theorem divide_any {W n m : Nat} {WW lo hi WW' lo' hi' : Int} (hw : Wd WW lo hi W n) (hw' : Wd WW' lo' hi' W m) (hm : 0 < m) (w : World) :
  Calls Try.prog 97 #[.agg #[.int .i64 WW, .int .u64 lo, .int .u64 hi], .agg #[.int .i64 WW', .int .u64 lo', .int .u64 hi']] w fun e w' => e = .returned (.tuple #[.agg #[.int .i64 W, .int .u64 (LO (n / m)), .int .u64 (HI (n / m))], .agg #[.int .i64 W, .int .u64 (LO (n % m)), .int .u64 (HI (n % m))]]) ∧ Below w.heap.size w w' := by
 obtain ⟨h1, h2, hn, rfl, rfl, rfl⟩ := hw
 obtain ⟨-, -, hn', rfl, rfl, rfl⟩ := hw'
 have hqe := eq_w
 have hq0 : eqB m 0 = false := eqB_no (by omega)
 go_enter Try.func97, Try.ntmps97
 go_wp2_with fail
 refine (cut_any (m := 0) (r := 0) h1 h2 (by decide) (Nat.zero_mod _) rfl lo0 hi0 _).mono ?_
 rintro e w1 ⟨rfl, hb1⟩
 have hb1' := below_step (w := w) (by go_grown) hb1
 have hs1 := hb1'.size
 have KF1 : W3 w1 w.heap.size W n <| F3 w1 w.heap.size <| W3 w1 (w.heap.size + 1) W m <| F3 w1 (w.heap.size + 1) <| S3 w1 (w.heap.size + 1 + 1) <| F3 w1 (w.heap.size + 1 + 1) <| S3 w1 (w.heap.size + 1 + 1 + 1) <| F3 w1 (w.heap.size + 1 + 1 + 1) <| True := (by refine k3 hb1 ?_ ?_ ?_ <| f3 hb1 ?_ ?_ <| k3 hb1 ?_ ?_ ?_ <| f3 hb1 ?_ ?_ <| s3 hb1 ?_ ?_ ?_ <| f3 hb1 ?_ ?_ <| s3 hb1 ?_ ?_ ?_ <| f3 hb1 ?_ ?_ <| trivial <;> (first | (simp [go_sem]; done))); have KF1z0 := zT KF1; have KF1z1 := zT KF1.2.2.2.2; have KF1z2 := zT KF1.2.2.2.2.2.2.2.2; have KF1z3 := zT KF1.2.2.2.2.2.2.2.2.2.2.2.2
 clear hb1
 go_wp2_with fail
 go_region
 all_goals
  go_wp2_with fail
  go_loopw [22] (fun i wr => ∃ k : Nat, k ≤ W ∧ i = .int .i64 k ∧ (wr.cell? ⟨w.heap.size, 0, none⟩ = some (.int .i64 W) ∧ wr.cell? ⟨w.heap.size, 1, none⟩ = some (.int .u64 (LO (n))) ∧ wr.cell? ⟨w.heap.size, 2, none⟩ = some (.int .u64 (HI (n)))) ∧ (wr.cell? ⟨w.heap.size + 1, 0, none⟩ = some (.int .i64 W) ∧ wr.cell? ⟨w.heap.size + 1, 1, none⟩ = some (.int .u64 (LO (m))) ∧ wr.cell? ⟨w.heap.size + 1, 2, none⟩ = some (.int .u64 (HI (m)))) ∧ (wr.cell? ⟨w.heap.size + 1 + 1, 0, none⟩ = some (.int .i64 W) ∧ wr.cell? ⟨w.heap.size + 1 + 1, 1, none⟩ = some (.int .u64 (LO (n / 2 ^ (W - k) / m))) ∧ wr.cell? ⟨w.heap.size + 1 + 1, 2, none⟩ = some (.int .u64 (HI (n / 2 ^ (W - k) / m)))) ∧ (wr.cell? ⟨w.heap.size + 1 + 1 + 1, 0, none⟩ = some (.int .i64 W) ∧ wr.cell? ⟨w.heap.size + 1 + 1 + 1, 1, none⟩ = some (.int .u64 (LO (n / 2 ^ (W - k) % m))) ∧ wr.cell? ⟨w.heap.size + 1 + 1 + 1, 2, none⟩ = some (.int .u64 (HI (n / 2 ^ (W - k) % m)))) ∧ (∀ j, wr.frozen? ⟨w.heap.size + 1 + 1, j, none⟩ = false) ∧ (∀ j, wr.frozen? ⟨w.heap.size + 1 + 1 + 1, j, none⟩ = false) ∧ Below w.heap.size w wr) (fun i _ => W - (intOf i).toNat)
  case atStart =>
   have e0 : n / 2 ^ W = 0 := Nat.div_eq_of_lt hn
   refine ⟨0, Nat.zero_le _, rfl, ⟨?_, ?_, ?_⟩, ⟨?_, ?_, ?_⟩, ⟨?_, ?_, ?_⟩, ⟨?_, ?_, ?_⟩, ?_, ?_, ?_⟩
   all_goals first | (simp [go_sem, KF1, KF1z0, KF1z1, KF1z2, KF1z3, e0]; done) | (intro j; simp [go_sem, KF1, KF1z0, KF1z1, KF1z2, KF1z3]; done) | go_grown
  case round =>
   clear KF1 KF1z0 KF1z1 KF1z2 KF1z3 hb1' hs1
   obtain ⟨k, hk, rfl, ha, hb, hq, hr, hf2, hf3, hbl⟩ := hrel
   by_cases hlt : k < W
   ·have hNm : n / 2 ^ (W - k) % m < m := Nat.mod_lt _ hm
    have hQ : n / 2 ^ (W - k) / m < 2 ^ W := Nat.lt_of_le_of_lt (Nat.div_le_self _ _) (Nat.lt_of_le_of_lt (Nat.div_le_self _ _) hn)
    have HT : Hid _ := top_step (n := n) hlt
    have HQB : Hid _ := quot_bound (m := m) hlt hn
    have HLT : Hid (∀ c, 2 * (n / 2 ^ (W - k) % m) + c < m → _) := fun c h => div_step_lt (m := m) (N := n / 2 ^ (W - k)) (c := c) h
    have HGE : Hid (∀ c, c ≤ 1 → m ≤ 2 * (n / 2 ^ (W - k) % m) + c → _) := fun c hc h => div_step_ge (m := m) (N := n / 2 ^ (W - k)) (c := c) hm hc h
    generalize n / 2 ^ (W - k) / m = Q at *
    generalize n / 2 ^ (W - k) % m = R at *
    generalize n / 2 ^ (W - k) = N at *
    have hR : R < 2 ^ W := by omega
    have KF0 := And.intro ha (And.intro hb (And.intro hq (And.intro hr (And.intro hf2 hf3))))
    clear ha hb hq hr hf2 hf3
    cases hbit : n.testBit (W - 1 - k)
    ·cases hout : R.testBit (W - 1)
     ·by_cases hl : dbl W R < m
      ·have hX := dbl_lt W R
       have hY := dbl_lt W Q
       have hXe := dbl_even (r := R) h1
       have hYe := dbl_even (r := Q) h1
       have hX1 := dbl_succ (r := R) h1
       have hY1 := dbl_succ (r := Q) h1
       have eN : n / 2 ^ (W - (k + 1)) = 2 * N + 0 := by have := HT.out; rw [hbit] at this; simpa using this
       have eY : dbl W Q = 2 * Q := HQB.out
       have eX : dbl W R = 2 * R := twice_lo h1 hR hout
       have hge := HLT.out 0 (by omega)
       have hlB : ltB (dbl W R) m = true := ltB_yes hl
       have e1 : n / 2 ^ (W - (k + 1)) / m = dbl W Q := by rw [eN, hge.1]; omega
       have e2 : n / 2 ^ (W - (k + 1)) % m = dbl W R := by rw [eN, hge.2]; omega
       have HE : Hid _ := And.intro e1 (And.intro e2 (And.intro (or1_lo hXe) (And.intro (or1_lo hYe) (And.intro (or1_hi hXe) (or1_hi hYe)))))
       clear eN eY eX hge e1 e2 HT HQB HLT HGE hl
       go_wp2_with fail
       refine (isBelowZero_any (Wd.mk' h1 h2 hR) _).mono ?_
       rintro e w2 ⟨rfl, hb2⟩
       have hb2' := below_step (w := w) (by go_grown) hb2
       have hs2 := hb2'.size
       have KF2 : W3 w2 w.heap.size W n <| W3 w2 (w.heap.size + 1) W m <| W3 w2 (w.heap.size + 1 + 1) W Q <| F3 w2 (w.heap.size + 1 + 1) <| W3 w2 (w.heap.size + 1 + 1 + 1) W R <| F3 w2 (w.heap.size + 1 + 1 + 1) <| True := (by refine k3 hb2 ?_ ?_ ?_ <| k3 hb2 ?_ ?_ ?_ <| k3 hb2 ?_ ?_ ?_ <| f3 hb2 ?_ ?_ <| k3 hb2 ?_ ?_ ?_ <| f3 hb2 ?_ ?_ <| trivial <;> (first | (simp [go_sem]; done) | (simp [go_sem, KF0]; done) | (simp [go_sem, KF0, World.cell?_alloc_some, frozen?_alloc_cells]; done))); have KF2z0 := zT KF2; have KF2z1 := zT KF2.2.2.2; have KF2z2 := zT KF2.2.2.2.2.2.2; have KF2z3 := zT KF2.2.2.2.2.2.2.2.2.2.2
       clear hb2 KF0
       go_wp2_with fail
       refine (dbl_any (Wd.mk' h1 h2 hR) _).mono ?_
       rintro e w3 ⟨rfl, hb3⟩
       have hb3' := below_step (w := w) (by go_grown) hb3
       have hs3 := hb3'.size
       have KF3 : W3 w3 w.heap.size W n <| W3 w3 (w.heap.size + 1) W m <| W3 w3 (w.heap.size + 1 + 1) W Q <| F3 w3 (w.heap.size + 1 + 1) <| W3 w3 (w.heap.size + 1 + 1 + 1) W R <| F3 w3 (w.heap.size + 1 + 1 + 1) <| True := (by refine k3 hb3 ?_ ?_ ?_ <| k3 hb3 ?_ ?_ ?_ <| k3 hb3 ?_ ?_ ?_ <| f3 hb3 ?_ ?_ <| k3 hb3 ?_ ?_ ?_ <| f3 hb3 ?_ ?_ <| trivial <;> (first | (simp [go_sem]; done) | (simp [go_sem, KF2]; done) | (simp [go_sem, KF2, World.cell?_alloc_some, frozen?_alloc_cells]; done))); have KF3z0 := zT KF3; have KF3z1 := zT KF3.2.2.2; have KF3z2 := zT KF3.2.2.2.2.2.2; have KF3z3 := zT KF3.2.2.2.2.2.2.2.2.2.2
       clear hb3 KF2
       go_wp2_with fail
       refine (dbl_any (Wd.mk' h1 h2 hQ) _).mono ?_
       rintro e w4 ⟨rfl, hb4⟩
       have hb4' := below_step (w := w) (by go_grown) hb4
       have hs4 := hb4'.size
       have KF4 : W3 w4 w.heap.size W n <| W3 w4 (w.heap.size + 1) W m <| W3 w4 (w.heap.size + 1 + 1) W Q <| F3 w4 (w.heap.size + 1 + 1) <| W3 w4 (w.heap.size + 1 + 1 + 1) W (dbl W R) <| F3 w4 (w.heap.size + 1 + 1 + 1) <| True := (by refine k3 hb4 ?_ ?_ ?_ <| k3 hb4 ?_ ?_ ?_ <| k3 hb4 ?_ ?_ ?_ <| f3 hb4 ?_ ?_ <| k3 hb4 ?_ ?_ ?_ <| f3 hb4 ?_ ?_ <| trivial <;> (first | (simp [go_sem]; done) | (simp [go_sem, KF3]; done) | (simp [go_sem, KF3, World.cell?_alloc_some, frozen?_alloc_cells]; done))); have KF4z0 := zT KF4; have KF4z1 := zT KF4.2.2.2; have KF4z2 := zT KF4.2.2.2.2.2.2; have KF4z3 := zT KF4.2.2.2.2.2.2.2.2.2.2
       clear hb4 KF3
       go_wp2_with fail
       refine (bitAt_any (i := W - 1 - k) (Wd.mk' h1 h2 hn) (by omega) (by omega) _).mono ?_
       rintro e w5 ⟨rfl, hb5⟩
       have hb5' := below_step (w := w) (by go_grown) hb5
       have hs5 := hb5'.size
       have KF5 : W3 w5 w.heap.size W n <| W3 w5 (w.heap.size + 1) W m <| W3 w5 (w.heap.size + 1 + 1) W (dbl W Q) <| F3 w5 (w.heap.size + 1 + 1) <| W3 w5 (w.heap.size + 1 + 1 + 1) W (dbl W R) <| F3 w5 (w.heap.size + 1 + 1 + 1) <| True := (by refine k3 hb5 ?_ ?_ ?_ <| k3 hb5 ?_ ?_ ?_ <| k3 hb5 ?_ ?_ ?_ <| f3 hb5 ?_ ?_ <| k3 hb5 ?_ ?_ ?_ <| f3 hb5 ?_ ?_ <| trivial <;> (first | (simp [go_sem]; done) | (simp [go_sem, KF4]; done) | (simp [go_sem, KF4, World.cell?_alloc_some, frozen?_alloc_cells]; done))); have KF5z0 := zT KF5; have KF5z1 := zT KF5.2.2.2; have KF5z2 := zT KF5.2.2.2.2.2.2; have KF5z3 := zT KF5.2.2.2.2.2.2.2.2.2.2
       clear hb5 KF4
       go_wp2_with fail
       refine (isBelow_any (n := dbl W R) (Wd.mk' h1 h2 hX) (Wd.mk' h1 h2 hn') _).mono ?_
       rintro e w6 ⟨rfl, hb6⟩
       have hb6' := below_step (w := w) (by go_grown) hb6
       have hs6 := hb6'.size
       have KF6 : W3 w6 w.heap.size W n <| W3 w6 (w.heap.size + 1) W m <| W3 w6 (w.heap.size + 1 + 1) W (dbl W Q) <| F3 w6 (w.heap.size + 1 + 1) <| W3 w6 (w.heap.size + 1 + 1 + 1) W (dbl W R) <| F3 w6 (w.heap.size + 1 + 1 + 1) <| True := (by refine k3 hb6 ?_ ?_ ?_ <| k3 hb6 ?_ ?_ ?_ <| k3 hb6 ?_ ?_ ?_ <| f3 hb6 ?_ ?_ <| k3 hb6 ?_ ?_ ?_ <| f3 hb6 ?_ ?_ <| trivial <;> (first | (simp [go_sem]; done) | (simp [go_sem, KF5]; done) | (simp [go_sem, KF5, World.cell?_alloc_some, frozen?_alloc_cells]; done))); have KF6z0 := zT KF6; have KF6z1 := zT KF6.2.2.2; have KF6z2 := zT KF6.2.2.2.2.2.2; have KF6z3 := zT KF6.2.2.2.2.2.2.2.2.2.2
       clear hb6 KF5
       go_wp2_with fail
       have KFE := And.intro KF6 HE.out
       refine ⟨⟨k + 1, by omega, by go_num, ⟨?_, ?_, ?_⟩, ⟨?_, ?_, ?_⟩, ⟨?_, ?_, ?_⟩, ⟨?_, ?_, ?_⟩, ?_, ?_, ?_⟩, by simp [intOf]; omega⟩
       all_goals first | (simp [go_sem, KFE]; done) | (intro j; simp [go_sem, KFE]; done) | go_grown
      ·have hX := dbl_lt W R
       have hY := dbl_lt W Q
       have hXe := dbl_even (r := R) h1
       have hYe := dbl_even (r := Q) h1
       have hX1 := dbl_succ (r := R) h1
       have hY1 := dbl_succ (r := Q) h1
       have eN : n / 2 ^ (W - (k + 1)) = 2 * N + 0 := by have := HT.out; rw [hbit] at this; simpa using this
       have eY : dbl W Q = 2 * Q := HQB.out
       have eX : dbl W R = 2 * R := twice_lo h1 hR hout
       have hge := HGE.out 0 (by omega) (by omega)
       have hlB : ltB (dbl W R) m = false := ltB_no hl
       have e1 : n / 2 ^ (W - (k + 1)) / m = dbl W Q + 1 := by rw [eN, hge.1]; omega
       have e2 : n / 2 ^ (W - (k + 1)) % m = (dbl W R + (2 ^ W - m)) % 2 ^ W := by rw [eN, hge.2]; refine (sub_res ?_ ?_ ?_).symm <;> omega
       have HE : Hid _ := And.intro e1 (And.intro e2 (And.intro (or1_lo hXe) (And.intro (or1_lo hYe) (And.intro (or1_hi hXe) (or1_hi hYe)))))
       clear eN eY eX hge e1 e2 HT HQB HLT HGE hl
       go_wp2_with fail
       refine (isBelowZero_any (Wd.mk' h1 h2 hR) _).mono ?_
       rintro e w7 ⟨rfl, hb7⟩
       have hb7' := below_step (w := w) (by go_grown) hb7
       have hs7 := hb7'.size
       have KF7 : W3 w7 w.heap.size W n <| W3 w7 (w.heap.size + 1) W m <| W3 w7 (w.heap.size + 1 + 1) W Q <| F3 w7 (w.heap.size + 1 + 1) <| W3 w7 (w.heap.size + 1 + 1 + 1) W R <| F3 w7 (w.heap.size + 1 + 1 + 1) <| True := (by refine k3 hb7 ?_ ?_ ?_ <| k3 hb7 ?_ ?_ ?_ <| k3 hb7 ?_ ?_ ?_ <| f3 hb7 ?_ ?_ <| k3 hb7 ?_ ?_ ?_ <| f3 hb7 ?_ ?_ <| trivial <;> (first | (simp [go_sem]; done) | (simp [go_sem, KF0]; done) | (simp [go_sem, KF0, World.cell?_alloc_some, frozen?_alloc_cells]; done))); have KF7z0 := zT KF7; have KF7z1 := zT KF7.2.2.2; have KF7z2 := zT KF7.2.2.2.2.2.2; have KF7z3 := zT KF7.2.2.2.2.2.2.2.2.2.2
       clear hb7 KF0
       go_wp2_with fail
       refine (dbl_any (Wd.mk' h1 h2 hR) _).mono ?_
       rintro e w8 ⟨rfl, hb8⟩
       have hb8' := below_step (w := w) (by go_grown) hb8
       have hs8 := hb8'.size
       have KF8 : W3 w8 w.heap.size W n <| W3 w8 (w.heap.size + 1) W m <| W3 w8 (w.heap.size + 1 + 1) W Q <| F3 w8 (w.heap.size + 1 + 1) <| W3 w8 (w.heap.size + 1 + 1 + 1) W R <| F3 w8 (w.heap.size + 1 + 1 + 1) <| True := (by refine k3 hb8 ?_ ?_ ?_ <| k3 hb8 ?_ ?_ ?_ <| k3 hb8 ?_ ?_ ?_ <| f3 hb8 ?_ ?_ <| k3 hb8 ?_ ?_ ?_ <| f3 hb8 ?_ ?_ <| trivial <;> (first | (simp [go_sem]; done) | (simp [go_sem, KF7]; done) | (simp [go_sem, KF7, World.cell?_alloc_some, frozen?_alloc_cells]; done))); have KF8z0 := zT KF8; have KF8z1 := zT KF8.2.2.2; have KF8z2 := zT KF8.2.2.2.2.2.2; have KF8z3 := zT KF8.2.2.2.2.2.2.2.2.2.2
       clear hb8 KF7
       go_wp2_with fail
       refine (dbl_any (Wd.mk' h1 h2 hQ) _).mono ?_
       rintro e w9 ⟨rfl, hb9⟩
       have hb9' := below_step (w := w) (by go_grown) hb9
       have hs9 := hb9'.size
       have KF9 : W3 w9 w.heap.size W n <| W3 w9 (w.heap.size + 1) W m <| W3 w9 (w.heap.size + 1 + 1) W Q <| F3 w9 (w.heap.size + 1 + 1) <| W3 w9 (w.heap.size + 1 + 1 + 1) W (dbl W R) <| F3 w9 (w.heap.size + 1 + 1 + 1) <| True := (by refine k3 hb9 ?_ ?_ ?_ <| k3 hb9 ?_ ?_ ?_ <| k3 hb9 ?_ ?_ ?_ <| f3 hb9 ?_ ?_ <| k3 hb9 ?_ ?_ ?_ <| f3 hb9 ?_ ?_ <| trivial <;> (first | (simp [go_sem]; done) | (simp [go_sem, KF8]; done) | (simp [go_sem, KF8, World.cell?_alloc_some, frozen?_alloc_cells]; done))); have KF9z0 := zT KF9; have KF9z1 := zT KF9.2.2.2; have KF9z2 := zT KF9.2.2.2.2.2.2; have KF9z3 := zT KF9.2.2.2.2.2.2.2.2.2.2
       clear hb9 KF8
       go_wp2_with fail
       refine (bitAt_any (i := W - 1 - k) (Wd.mk' h1 h2 hn) (by omega) (by omega) _).mono ?_
       rintro e w10 ⟨rfl, hb10⟩
       have hb10' := below_step (w := w) (by go_grown) hb10
       have hs10 := hb10'.size
       have KF10 : W3 w10 w.heap.size W n <| W3 w10 (w.heap.size + 1) W m <| W3 w10 (w.heap.size + 1 + 1) W (dbl W Q) <| F3 w10 (w.heap.size + 1 + 1) <| W3 w10 (w.heap.size + 1 + 1 + 1) W (dbl W R) <| F3 w10 (w.heap.size + 1 + 1 + 1) <| True := (by refine k3 hb10 ?_ ?_ ?_ <| k3 hb10 ?_ ?_ ?_ <| k3 hb10 ?_ ?_ ?_ <| f3 hb10 ?_ ?_ <| k3 hb10 ?_ ?_ ?_ <| f3 hb10 ?_ ?_ <| trivial <;> (first | (simp [go_sem]; done) | (simp [go_sem, KF9]; done) | (simp [go_sem, KF9, World.cell?_alloc_some, frozen?_alloc_cells]; done))); have KF10z0 := zT KF10; have KF10z1 := zT KF10.2.2.2; have KF10z2 := zT KF10.2.2.2.2.2.2; have KF10z3 := zT KF10.2.2.2.2.2.2.2.2.2.2
       clear hb10 KF9
       go_wp2_with fail
       refine (isBelow_any (n := dbl W R) (Wd.mk' h1 h2 hX) (Wd.mk' h1 h2 hn') _).mono ?_
       rintro e w11 ⟨rfl, hb11⟩
       have hb11' := below_step (w := w) (by go_grown) hb11
       have hs11 := hb11'.size
       have KF11 : W3 w11 w.heap.size W n <| W3 w11 (w.heap.size + 1) W m <| W3 w11 (w.heap.size + 1 + 1) W (dbl W Q) <| F3 w11 (w.heap.size + 1 + 1) <| W3 w11 (w.heap.size + 1 + 1 + 1) W (dbl W R) <| F3 w11 (w.heap.size + 1 + 1 + 1) <| True := (by refine k3 hb11 ?_ ?_ ?_ <| k3 hb11 ?_ ?_ ?_ <| k3 hb11 ?_ ?_ ?_ <| f3 hb11 ?_ ?_ <| k3 hb11 ?_ ?_ ?_ <| f3 hb11 ?_ ?_ <| trivial <;> (first | (simp [go_sem]; done) | (simp [go_sem, KF10]; done) | (simp [go_sem, KF10, World.cell?_alloc_some, frozen?_alloc_cells]; done))); have KF11z0 := zT KF11; have KF11z1 := zT KF11.2.2.2; have KF11z2 := zT KF11.2.2.2.2.2.2; have KF11z3 := zT KF11.2.2.2.2.2.2.2.2.2.2
       clear hb11 KF10
       go_wp2_with fail
       refine (subtract_any (n := dbl W R) (Wd.mk' h1 h2 hX) (Wd.mk' h1 h2 hn') _).mono ?_
       rintro e w12 ⟨rfl, hb12⟩
       have hb12' := below_step (w := w) (by go_grown) hb12
       have hs12 := hb12'.size
       have KF12 : W3 w12 w.heap.size W n <| W3 w12 (w.heap.size + 1) W m <| W3 w12 (w.heap.size + 1 + 1) W (dbl W Q) <| F3 w12 (w.heap.size + 1 + 1) <| W3 w12 (w.heap.size + 1 + 1 + 1) W (dbl W R) <| F3 w12 (w.heap.size + 1 + 1 + 1) <| True := (by refine k3 hb12 ?_ ?_ ?_ <| k3 hb12 ?_ ?_ ?_ <| k3 hb12 ?_ ?_ ?_ <| f3 hb12 ?_ ?_ <| k3 hb12 ?_ ?_ ?_ <| f3 hb12 ?_ ?_ <| trivial <;> (first | (simp [go_sem]; done) | (simp [go_sem, KF11]; done) | (simp [go_sem, KF11, World.cell?_alloc_some, frozen?_alloc_cells]; done))); have KF12z0 := zT KF12; have KF12z1 := zT KF12.2.2.2; have KF12z2 := zT KF12.2.2.2.2.2.2; have KF12z3 := zT KF12.2.2.2.2.2.2.2.2.2.2
       clear hb12 KF11
       go_wp2_with fail
       have KFE := And.intro KF12 HE.out
       refine ⟨⟨k + 1, by omega, by go_num, ⟨?_, ?_, ?_⟩, ⟨?_, ?_, ?_⟩, ⟨?_, ?_, ?_⟩, ⟨?_, ?_, ?_⟩, ?_, ?_, ?_⟩, by simp [intOf]; omega⟩
       all_goals first | (simp [go_sem, KFE]; done) | (intro j; simp [go_sem, KFE]; done) | go_grown
     ·have hX := dbl_lt W R
      have hY := dbl_lt W Q
      have hXe := dbl_even (r := R) h1
      have hYe := dbl_even (r := Q) h1
      have hX1 := dbl_succ (r := R) h1
      have hY1 := dbl_succ (r := Q) h1
      have eN : n / 2 ^ (W - (k + 1)) = 2 * N + 0 := by have := HT.out; rw [hbit] at this; simpa using this
      have eY : dbl W Q = 2 * Q := HQB.out
      have eX : dbl W R + 2 ^ W = 2 * R := twice_hi h1 hR hout
      have hge := HGE.out 0 (by omega) (by omega)
      have e1 : n / 2 ^ (W - (k + 1)) / m = dbl W Q + 1 := by rw [eN, hge.1]; omega
      have e2 : n / 2 ^ (W - (k + 1)) % m = (dbl W R + (2 ^ W - m)) % 2 ^ W := by rw [eN, hge.2]; refine (sub_res ?_ ?_ ?_).symm <;> omega
      have HE : Hid _ := And.intro e1 (And.intro e2 (And.intro (or1_lo hXe) (And.intro (or1_lo hYe) (And.intro (or1_hi hXe) (or1_hi hYe)))))
      clear eN eY eX hge e1 e2 HT HQB HLT HGE
      go_wp2_with fail
      refine (isBelowZero_any (Wd.mk' h1 h2 hR) _).mono ?_
      rintro e w13 ⟨rfl, hb13⟩
      have hb13' := below_step (w := w) (by go_grown) hb13
      have hs13 := hb13'.size
      have KF13 : W3 w13 w.heap.size W n <| W3 w13 (w.heap.size + 1) W m <| W3 w13 (w.heap.size + 1 + 1) W Q <| F3 w13 (w.heap.size + 1 + 1) <| W3 w13 (w.heap.size + 1 + 1 + 1) W R <| F3 w13 (w.heap.size + 1 + 1 + 1) <| True := (by refine k3 hb13 ?_ ?_ ?_ <| k3 hb13 ?_ ?_ ?_ <| k3 hb13 ?_ ?_ ?_ <| f3 hb13 ?_ ?_ <| k3 hb13 ?_ ?_ ?_ <| f3 hb13 ?_ ?_ <| trivial <;> (first | (simp [go_sem]; done) | (simp [go_sem, KF0]; done) | (simp [go_sem, KF0, World.cell?_alloc_some, frozen?_alloc_cells]; done))); have KF13z0 := zT KF13; have KF13z1 := zT KF13.2.2.2; have KF13z2 := zT KF13.2.2.2.2.2.2; have KF13z3 := zT KF13.2.2.2.2.2.2.2.2.2.2
      clear hb13 KF0
      go_wp2_with fail
      refine (dbl_any (Wd.mk' h1 h2 hR) _).mono ?_
      rintro e w14 ⟨rfl, hb14⟩
      have hb14' := below_step (w := w) (by go_grown) hb14
      have hs14 := hb14'.size
      have KF14 : W3 w14 w.heap.size W n <| W3 w14 (w.heap.size + 1) W m <| W3 w14 (w.heap.size + 1 + 1) W Q <| F3 w14 (w.heap.size + 1 + 1) <| W3 w14 (w.heap.size + 1 + 1 + 1) W R <| F3 w14 (w.heap.size + 1 + 1 + 1) <| True := (by refine k3 hb14 ?_ ?_ ?_ <| k3 hb14 ?_ ?_ ?_ <| k3 hb14 ?_ ?_ ?_ <| f3 hb14 ?_ ?_ <| k3 hb14 ?_ ?_ ?_ <| f3 hb14 ?_ ?_ <| trivial <;> (first | (simp [go_sem]; done) | (simp [go_sem, KF13]; done) | (simp [go_sem, KF13, World.cell?_alloc_some, frozen?_alloc_cells]; done))); have KF14z0 := zT KF14; have KF14z1 := zT KF14.2.2.2; have KF14z2 := zT KF14.2.2.2.2.2.2; have KF14z3 := zT KF14.2.2.2.2.2.2.2.2.2.2
      clear hb14 KF13
      go_wp2_with fail
      refine (dbl_any (Wd.mk' h1 h2 hQ) _).mono ?_
      rintro e w15 ⟨rfl, hb15⟩
      have hb15' := below_step (w := w) (by go_grown) hb15
      have hs15 := hb15'.size
      have KF15 : W3 w15 w.heap.size W n <| W3 w15 (w.heap.size + 1) W m <| W3 w15 (w.heap.size + 1 + 1) W Q <| F3 w15 (w.heap.size + 1 + 1) <| W3 w15 (w.heap.size + 1 + 1 + 1) W (dbl W R) <| F3 w15 (w.heap.size + 1 + 1 + 1) <| True := (by refine k3 hb15 ?_ ?_ ?_ <| k3 hb15 ?_ ?_ ?_ <| k3 hb15 ?_ ?_ ?_ <| f3 hb15 ?_ ?_ <| k3 hb15 ?_ ?_ ?_ <| f3 hb15 ?_ ?_ <| trivial <;> (first | (simp [go_sem]; done) | (simp [go_sem, KF14]; done) | (simp [go_sem, KF14, World.cell?_alloc_some, frozen?_alloc_cells]; done))); have KF15z0 := zT KF15; have KF15z1 := zT KF15.2.2.2; have KF15z2 := zT KF15.2.2.2.2.2.2; have KF15z3 := zT KF15.2.2.2.2.2.2.2.2.2.2
      clear hb15 KF14
      go_wp2_with fail
      refine (bitAt_any (i := W - 1 - k) (Wd.mk' h1 h2 hn) (by omega) (by omega) _).mono ?_
      rintro e w16 ⟨rfl, hb16⟩
      have hb16' := below_step (w := w) (by go_grown) hb16
      have hs16 := hb16'.size
      have KF16 : W3 w16 w.heap.size W n <| W3 w16 (w.heap.size + 1) W m <| W3 w16 (w.heap.size + 1 + 1) W (dbl W Q) <| F3 w16 (w.heap.size + 1 + 1) <| W3 w16 (w.heap.size + 1 + 1 + 1) W (dbl W R) <| F3 w16 (w.heap.size + 1 + 1 + 1) <| True := (by refine k3 hb16 ?_ ?_ ?_ <| k3 hb16 ?_ ?_ ?_ <| k3 hb16 ?_ ?_ ?_ <| f3 hb16 ?_ ?_ <| k3 hb16 ?_ ?_ ?_ <| f3 hb16 ?_ ?_ <| trivial <;> (first | (simp [go_sem]; done) | (simp [go_sem, KF15]; done) | (simp [go_sem, KF15, World.cell?_alloc_some, frozen?_alloc_cells]; done))); have KF16z0 := zT KF16; have KF16z1 := zT KF16.2.2.2; have KF16z2 := zT KF16.2.2.2.2.2.2; have KF16z3 := zT KF16.2.2.2.2.2.2.2.2.2.2
      clear hb16 KF15
      go_wp2_with fail
      refine (subtract_any (n := dbl W R) (Wd.mk' h1 h2 hX) (Wd.mk' h1 h2 hn') _).mono ?_
      rintro e w17 ⟨rfl, hb17⟩
      have hb17' := below_step (w := w) (by go_grown) hb17
      have hs17 := hb17'.size
      have KF17 : W3 w17 w.heap.size W n <| W3 w17 (w.heap.size + 1) W m <| W3 w17 (w.heap.size + 1 + 1) W (dbl W Q) <| F3 w17 (w.heap.size + 1 + 1) <| W3 w17 (w.heap.size + 1 + 1 + 1) W (dbl W R) <| F3 w17 (w.heap.size + 1 + 1 + 1) <| True := (by refine k3 hb17 ?_ ?_ ?_ <| k3 hb17 ?_ ?_ ?_ <| k3 hb17 ?_ ?_ ?_ <| f3 hb17 ?_ ?_ <| k3 hb17 ?_ ?_ ?_ <| f3 hb17 ?_ ?_ <| trivial <;> (first | (simp [go_sem]; done) | (simp [go_sem, KF16]; done) | (simp [go_sem, KF16, World.cell?_alloc_some, frozen?_alloc_cells]; done))); have KF17z0 := zT KF17; have KF17z1 := zT KF17.2.2.2; have KF17z2 := zT KF17.2.2.2.2.2.2; have KF17z3 := zT KF17.2.2.2.2.2.2.2.2.2.2
      clear hb17 KF16
      go_wp2_with fail
      have KFE := And.intro KF17 HE.out
      refine ⟨⟨k + 1, by omega, by go_num, ⟨?_, ?_, ?_⟩, ⟨?_, ?_, ?_⟩, ⟨?_, ?_, ?_⟩, ⟨?_, ?_, ?_⟩, ?_, ?_, ?_⟩, by simp [intOf]; omega⟩
      all_goals first | (simp [go_sem, KFE]; done) | (intro j; simp [go_sem, KFE]; done) | go_grown
    ·cases hout : R.testBit (W - 1)
     ·by_cases hl : dbl W R + 1 < m
      ·have hX := dbl_lt W R
       have hY := dbl_lt W Q
       have hXe := dbl_even (r := R) h1
       have hYe := dbl_even (r := Q) h1
       have hX1 := dbl_succ (r := R) h1
       have hY1 := dbl_succ (r := Q) h1
       have eN : n / 2 ^ (W - (k + 1)) = 2 * N + 1 := by have := HT.out; rw [hbit] at this; simpa using this
       have eY : dbl W Q = 2 * Q := HQB.out
       have eX : dbl W R = 2 * R := twice_lo h1 hR hout
       have hge := HLT.out 1 (by omega)
       have hlB : ltB (dbl W R + 1) m = true := ltB_yes hl
       have e1 : n / 2 ^ (W - (k + 1)) / m = dbl W Q := by rw [eN, hge.1]; omega
       have e2 : n / 2 ^ (W - (k + 1)) % m = dbl W R + 1 := by rw [eN, hge.2]; omega
       have HE : Hid _ := And.intro e1 (And.intro e2 (And.intro (or1_lo hXe) (And.intro (or1_lo hYe) (And.intro (or1_hi hXe) (or1_hi hYe)))))
       clear eN eY eX hge e1 e2 HT HQB HLT HGE hl
       go_wp2_with fail
       refine (isBelowZero_any (Wd.mk' h1 h2 hR) _).mono ?_
       rintro e w18 ⟨rfl, hb18⟩
       have hb18' := below_step (w := w) (by go_grown) hb18
       have hs18 := hb18'.size
       have KF18 : W3 w18 w.heap.size W n <| W3 w18 (w.heap.size + 1) W m <| W3 w18 (w.heap.size + 1 + 1) W Q <| F3 w18 (w.heap.size + 1 + 1) <| W3 w18 (w.heap.size + 1 + 1 + 1) W R <| F3 w18 (w.heap.size + 1 + 1 + 1) <| True := (by refine k3 hb18 ?_ ?_ ?_ <| k3 hb18 ?_ ?_ ?_ <| k3 hb18 ?_ ?_ ?_ <| f3 hb18 ?_ ?_ <| k3 hb18 ?_ ?_ ?_ <| f3 hb18 ?_ ?_ <| trivial <;> (first | (simp [go_sem]; done) | (simp [go_sem, KF0]; done) | (simp [go_sem, KF0, World.cell?_alloc_some, frozen?_alloc_cells]; done))); have KF18z0 := zT KF18; have KF18z1 := zT KF18.2.2.2; have KF18z2 := zT KF18.2.2.2.2.2.2; have KF18z3 := zT KF18.2.2.2.2.2.2.2.2.2.2
       clear hb18 KF0
       go_wp2_with fail
       refine (dbl_any (Wd.mk' h1 h2 hR) _).mono ?_
       rintro e w19 ⟨rfl, hb19⟩
       have hb19' := below_step (w := w) (by go_grown) hb19
       have hs19 := hb19'.size
       have KF19 : W3 w19 w.heap.size W n <| W3 w19 (w.heap.size + 1) W m <| W3 w19 (w.heap.size + 1 + 1) W Q <| F3 w19 (w.heap.size + 1 + 1) <| W3 w19 (w.heap.size + 1 + 1 + 1) W R <| F3 w19 (w.heap.size + 1 + 1 + 1) <| True := (by refine k3 hb19 ?_ ?_ ?_ <| k3 hb19 ?_ ?_ ?_ <| k3 hb19 ?_ ?_ ?_ <| f3 hb19 ?_ ?_ <| k3 hb19 ?_ ?_ ?_ <| f3 hb19 ?_ ?_ <| trivial <;> (first | (simp [go_sem]; done) | (simp [go_sem, KF18]; done) | (simp [go_sem, KF18, World.cell?_alloc_some, frozen?_alloc_cells]; done))); have KF19z0 := zT KF19; have KF19z1 := zT KF19.2.2.2; have KF19z2 := zT KF19.2.2.2.2.2.2; have KF19z3 := zT KF19.2.2.2.2.2.2.2.2.2.2
       clear hb19 KF18
       go_wp2_with fail
       refine (dbl_any (Wd.mk' h1 h2 hQ) _).mono ?_
       rintro e w20 ⟨rfl, hb20⟩
       have hb20' := below_step (w := w) (by go_grown) hb20
       have hs20 := hb20'.size
       have KF20 : W3 w20 w.heap.size W n <| W3 w20 (w.heap.size + 1) W m <| W3 w20 (w.heap.size + 1 + 1) W Q <| F3 w20 (w.heap.size + 1 + 1) <| W3 w20 (w.heap.size + 1 + 1 + 1) W (dbl W R) <| F3 w20 (w.heap.size + 1 + 1 + 1) <| True := (by refine k3 hb20 ?_ ?_ ?_ <| k3 hb20 ?_ ?_ ?_ <| k3 hb20 ?_ ?_ ?_ <| f3 hb20 ?_ ?_ <| k3 hb20 ?_ ?_ ?_ <| f3 hb20 ?_ ?_ <| trivial <;> (first | (simp [go_sem]; done) | (simp [go_sem, KF19]; done) | (simp [go_sem, KF19, World.cell?_alloc_some, frozen?_alloc_cells]; done))); have KF20z0 := zT KF20; have KF20z1 := zT KF20.2.2.2; have KF20z2 := zT KF20.2.2.2.2.2.2; have KF20z3 := zT KF20.2.2.2.2.2.2.2.2.2.2
       clear hb20 KF19
       go_wp2_with fail
       refine (bitAt_any (i := W - 1 - k) (Wd.mk' h1 h2 hn) (by omega) (by omega) _).mono ?_
       rintro e w21 ⟨rfl, hb21⟩
       have hb21' := below_step (w := w) (by go_grown) hb21
       have hs21 := hb21'.size
       have KF21 : W3 w21 w.heap.size W n <| W3 w21 (w.heap.size + 1) W m <| W3 w21 (w.heap.size + 1 + 1) W (dbl W Q) <| F3 w21 (w.heap.size + 1 + 1) <| W3 w21 (w.heap.size + 1 + 1 + 1) W (dbl W R) <| F3 w21 (w.heap.size + 1 + 1 + 1) <| True := (by refine k3 hb21 ?_ ?_ ?_ <| k3 hb21 ?_ ?_ ?_ <| k3 hb21 ?_ ?_ ?_ <| f3 hb21 ?_ ?_ <| k3 hb21 ?_ ?_ ?_ <| f3 hb21 ?_ ?_ <| trivial <;> (first | (simp [go_sem]; done) | (simp [go_sem, KF20]; done) | (simp [go_sem, KF20, World.cell?_alloc_some, frozen?_alloc_cells]; done))); have KF21z0 := zT KF21; have KF21z1 := zT KF21.2.2.2; have KF21z2 := zT KF21.2.2.2.2.2.2; have KF21z3 := zT KF21.2.2.2.2.2.2.2.2.2.2
       clear hb21 KF20
       go_wp2_with fail
       refine (isBelow_any (n := dbl W R + 1) ⟨h1, h2, hX1, rfl, or1_lo hXe, or1_hi hXe⟩ (Wd.mk' h1 h2 hn') _).mono ?_
       rintro e w22 ⟨rfl, hb22⟩
       have hb22' := below_step (w := w) (by go_grown) hb22
       have hs22 := hb22'.size
       have KF22 : W3 w22 w.heap.size W n <| W3 w22 (w.heap.size + 1) W m <| W3 w22 (w.heap.size + 1 + 1) W (dbl W Q) <| F3 w22 (w.heap.size + 1 + 1) <| T3 w22 (w.heap.size + 1 + 1 + 1) (.int .i64 W) (.int .u64 (bits .or .u64 (LO (dbl W R)) 1)) (.int .u64 (HI (dbl W R))) <| F3 w22 (w.heap.size + 1 + 1 + 1) <| True := (by refine k3 hb22 ?_ ?_ ?_ <| k3 hb22 ?_ ?_ ?_ <| k3 hb22 ?_ ?_ ?_ <| f3 hb22 ?_ ?_ <| k3 hb22 ?_ ?_ ?_ <| f3 hb22 ?_ ?_ <| trivial <;> (first | (simp [go_sem]; done) | (simp [go_sem, KF21]; done) | (simp [go_sem, KF21, World.cell?_alloc_some, frozen?_alloc_cells]; done))); have KF22z0 := zT KF22; have KF22z1 := zT KF22.2.2.2; have KF22z2 := zT KF22.2.2.2.2.2.2; have KF22z3 := zT KF22.2.2.2.2.2.2.2.2.2.2
       clear hb22 KF21
       go_wp2_with fail
       have KFE := And.intro KF22 HE.out
       refine ⟨⟨k + 1, by omega, by go_num, ⟨?_, ?_, ?_⟩, ⟨?_, ?_, ?_⟩, ⟨?_, ?_, ?_⟩, ⟨?_, ?_, ?_⟩, ?_, ?_, ?_⟩, by simp [intOf]; omega⟩
       all_goals first | (simp [go_sem, KFE]; done) | (intro j; simp [go_sem, KFE]; done) | go_grown
      ·have hX := dbl_lt W R
       have hY := dbl_lt W Q
       have hXe := dbl_even (r := R) h1
       have hYe := dbl_even (r := Q) h1
       have hX1 := dbl_succ (r := R) h1
       have hY1 := dbl_succ (r := Q) h1
       have eN : n / 2 ^ (W - (k + 1)) = 2 * N + 1 := by have := HT.out; rw [hbit] at this; simpa using this
       have eY : dbl W Q = 2 * Q := HQB.out
       have eX : dbl W R = 2 * R := twice_lo h1 hR hout
       have hge := HGE.out 1 (by omega) (by omega)
       have hlB : ltB (dbl W R + 1) m = false := ltB_no hl
       have e1 : n / 2 ^ (W - (k + 1)) / m = dbl W Q + 1 := by rw [eN, hge.1]; omega
       have e2 : n / 2 ^ (W - (k + 1)) % m = (dbl W R + 1 + (2 ^ W - m)) % 2 ^ W := by rw [eN, hge.2]; refine (sub_res ?_ ?_ ?_).symm <;> omega
       have HE : Hid _ := And.intro e1 (And.intro e2 (And.intro (or1_lo hXe) (And.intro (or1_lo hYe) (And.intro (or1_hi hXe) (or1_hi hYe)))))
       clear eN eY eX hge e1 e2 HT HQB HLT HGE hl
       go_wp2_with fail
       refine (isBelowZero_any (Wd.mk' h1 h2 hR) _).mono ?_
       rintro e w23 ⟨rfl, hb23⟩
       have hb23' := below_step (w := w) (by go_grown) hb23
       have hs23 := hb23'.size
       have KF23 : W3 w23 w.heap.size W n <| W3 w23 (w.heap.size + 1) W m <| W3 w23 (w.heap.size + 1 + 1) W Q <| F3 w23 (w.heap.size + 1 + 1) <| W3 w23 (w.heap.size + 1 + 1 + 1) W R <| F3 w23 (w.heap.size + 1 + 1 + 1) <| True := (by refine k3 hb23 ?_ ?_ ?_ <| k3 hb23 ?_ ?_ ?_ <| k3 hb23 ?_ ?_ ?_ <| f3 hb23 ?_ ?_ <| k3 hb23 ?_ ?_ ?_ <| f3 hb23 ?_ ?_ <| trivial <;> (first | (simp [go_sem]; done) | (simp [go_sem, KF0]; done) | (simp [go_sem, KF0, World.cell?_alloc_some, frozen?_alloc_cells]; done))); have KF23z0 := zT KF23; have KF23z1 := zT KF23.2.2.2; have KF23z2 := zT KF23.2.2.2.2.2.2; have KF23z3 := zT KF23.2.2.2.2.2.2.2.2.2.2
       clear hb23 KF0
       go_wp2_with fail
       refine (dbl_any (Wd.mk' h1 h2 hR) _).mono ?_
       rintro e w24 ⟨rfl, hb24⟩
       have hb24' := below_step (w := w) (by go_grown) hb24
       have hs24 := hb24'.size
       have KF24 : W3 w24 w.heap.size W n <| W3 w24 (w.heap.size + 1) W m <| W3 w24 (w.heap.size + 1 + 1) W Q <| F3 w24 (w.heap.size + 1 + 1) <| W3 w24 (w.heap.size + 1 + 1 + 1) W R <| F3 w24 (w.heap.size + 1 + 1 + 1) <| True := (by refine k3 hb24 ?_ ?_ ?_ <| k3 hb24 ?_ ?_ ?_ <| k3 hb24 ?_ ?_ ?_ <| f3 hb24 ?_ ?_ <| k3 hb24 ?_ ?_ ?_ <| f3 hb24 ?_ ?_ <| trivial <;> (first | (simp [go_sem]; done) | (simp [go_sem, KF23]; done) | (simp [go_sem, KF23, World.cell?_alloc_some, frozen?_alloc_cells]; done))); have KF24z0 := zT KF24; have KF24z1 := zT KF24.2.2.2; have KF24z2 := zT KF24.2.2.2.2.2.2; have KF24z3 := zT KF24.2.2.2.2.2.2.2.2.2.2
       clear hb24 KF23
       go_wp2_with fail
       refine (dbl_any (Wd.mk' h1 h2 hQ) _).mono ?_
       rintro e w25 ⟨rfl, hb25⟩
       have hb25' := below_step (w := w) (by go_grown) hb25
       have hs25 := hb25'.size
       have KF25 : W3 w25 w.heap.size W n <| W3 w25 (w.heap.size + 1) W m <| W3 w25 (w.heap.size + 1 + 1) W Q <| F3 w25 (w.heap.size + 1 + 1) <| W3 w25 (w.heap.size + 1 + 1 + 1) W (dbl W R) <| F3 w25 (w.heap.size + 1 + 1 + 1) <| True := (by refine k3 hb25 ?_ ?_ ?_ <| k3 hb25 ?_ ?_ ?_ <| k3 hb25 ?_ ?_ ?_ <| f3 hb25 ?_ ?_ <| k3 hb25 ?_ ?_ ?_ <| f3 hb25 ?_ ?_ <| trivial <;> (first | (simp [go_sem]; done) | (simp [go_sem, KF24]; done) | (simp [go_sem, KF24, World.cell?_alloc_some, frozen?_alloc_cells]; done))); have KF25z0 := zT KF25; have KF25z1 := zT KF25.2.2.2; have KF25z2 := zT KF25.2.2.2.2.2.2; have KF25z3 := zT KF25.2.2.2.2.2.2.2.2.2.2
       clear hb25 KF24
       go_wp2_with fail
       refine (bitAt_any (i := W - 1 - k) (Wd.mk' h1 h2 hn) (by omega) (by omega) _).mono ?_
       rintro e w26 ⟨rfl, hb26⟩
       have hb26' := below_step (w := w) (by go_grown) hb26
       have hs26 := hb26'.size
       have KF26 : W3 w26 w.heap.size W n <| W3 w26 (w.heap.size + 1) W m <| W3 w26 (w.heap.size + 1 + 1) W (dbl W Q) <| F3 w26 (w.heap.size + 1 + 1) <| W3 w26 (w.heap.size + 1 + 1 + 1) W (dbl W R) <| F3 w26 (w.heap.size + 1 + 1 + 1) <| True := (by refine k3 hb26 ?_ ?_ ?_ <| k3 hb26 ?_ ?_ ?_ <| k3 hb26 ?_ ?_ ?_ <| f3 hb26 ?_ ?_ <| k3 hb26 ?_ ?_ ?_ <| f3 hb26 ?_ ?_ <| trivial <;> (first | (simp [go_sem]; done) | (simp [go_sem, KF25]; done) | (simp [go_sem, KF25, World.cell?_alloc_some, frozen?_alloc_cells]; done))); have KF26z0 := zT KF26; have KF26z1 := zT KF26.2.2.2; have KF26z2 := zT KF26.2.2.2.2.2.2; have KF26z3 := zT KF26.2.2.2.2.2.2.2.2.2.2
       clear hb26 KF25
       go_wp2_with fail
       refine (isBelow_any (n := dbl W R + 1) ⟨h1, h2, hX1, rfl, or1_lo hXe, or1_hi hXe⟩ (Wd.mk' h1 h2 hn') _).mono ?_
       rintro e w27 ⟨rfl, hb27⟩
       have hb27' := below_step (w := w) (by go_grown) hb27
       have hs27 := hb27'.size
       have KF27 : W3 w27 w.heap.size W n <| W3 w27 (w.heap.size + 1) W m <| W3 w27 (w.heap.size + 1 + 1) W (dbl W Q) <| F3 w27 (w.heap.size + 1 + 1) <| T3 w27 (w.heap.size + 1 + 1 + 1) (.int .i64 W) (.int .u64 (bits .or .u64 (LO (dbl W R)) 1)) (.int .u64 (HI (dbl W R))) <| F3 w27 (w.heap.size + 1 + 1 + 1) <| True := (by refine k3 hb27 ?_ ?_ ?_ <| k3 hb27 ?_ ?_ ?_ <| k3 hb27 ?_ ?_ ?_ <| f3 hb27 ?_ ?_ <| k3 hb27 ?_ ?_ ?_ <| f3 hb27 ?_ ?_ <| trivial <;> (first | (simp [go_sem]; done) | (simp [go_sem, KF26]; done) | (simp [go_sem, KF26, World.cell?_alloc_some, frozen?_alloc_cells]; done))); have KF27z0 := zT KF27; have KF27z1 := zT KF27.2.2.2; have KF27z2 := zT KF27.2.2.2.2.2.2; have KF27z3 := zT KF27.2.2.2.2.2.2.2.2.2.2
       clear hb27 KF26
       go_wp2_with fail
       refine (subtract_any (n := dbl W R + 1) ⟨h1, h2, hX1, rfl, or1_lo hXe, or1_hi hXe⟩ (Wd.mk' h1 h2 hn') _).mono ?_
       rintro e w28 ⟨rfl, hb28⟩
       have hb28' := below_step (w := w) (by go_grown) hb28
       have hs28 := hb28'.size
       have KF28 : W3 w28 w.heap.size W n <| W3 w28 (w.heap.size + 1) W m <| W3 w28 (w.heap.size + 1 + 1) W (dbl W Q) <| F3 w28 (w.heap.size + 1 + 1) <| T3 w28 (w.heap.size + 1 + 1 + 1) (.int .i64 W) (.int .u64 (bits .or .u64 (LO (dbl W R)) 1)) (.int .u64 (HI (dbl W R))) <| F3 w28 (w.heap.size + 1 + 1 + 1) <| True := (by refine k3 hb28 ?_ ?_ ?_ <| k3 hb28 ?_ ?_ ?_ <| k3 hb28 ?_ ?_ ?_ <| f3 hb28 ?_ ?_ <| k3 hb28 ?_ ?_ ?_ <| f3 hb28 ?_ ?_ <| trivial <;> (first | (simp [go_sem]; done) | (simp [go_sem, KF27]; done) | (simp [go_sem, KF27, World.cell?_alloc_some, frozen?_alloc_cells]; done))); have KF28z0 := zT KF28; have KF28z1 := zT KF28.2.2.2; have KF28z2 := zT KF28.2.2.2.2.2.2; have KF28z3 := zT KF28.2.2.2.2.2.2.2.2.2.2
       clear hb28 KF27
       go_wp2_with fail
       have KFE := And.intro KF28 HE.out
       refine ⟨⟨k + 1, by omega, by go_num, ⟨?_, ?_, ?_⟩, ⟨?_, ?_, ?_⟩, ⟨?_, ?_, ?_⟩, ⟨?_, ?_, ?_⟩, ?_, ?_, ?_⟩, by simp [intOf]; omega⟩
       all_goals first | (simp [go_sem, KFE]; done) | (intro j; simp [go_sem, KFE]; done) | go_grown
     ·have hX := dbl_lt W R
      have hY := dbl_lt W Q
      have hXe := dbl_even (r := R) h1
      have hYe := dbl_even (r := Q) h1
      have hX1 := dbl_succ (r := R) h1
      have hY1 := dbl_succ (r := Q) h1
      have eN : n / 2 ^ (W - (k + 1)) = 2 * N + 1 := by have := HT.out; rw [hbit] at this; simpa using this
      have eY : dbl W Q = 2 * Q := HQB.out
      have eX : dbl W R + 2 ^ W = 2 * R := twice_hi h1 hR hout
      have hge := HGE.out 1 (by omega) (by omega)
      have e1 : n / 2 ^ (W - (k + 1)) / m = dbl W Q + 1 := by rw [eN, hge.1]; omega
      have e2 : n / 2 ^ (W - (k + 1)) % m = (dbl W R + 1 + (2 ^ W - m)) % 2 ^ W := by rw [eN, hge.2]; refine (sub_res ?_ ?_ ?_).symm <;> omega
      have HE : Hid _ := And.intro e1 (And.intro e2 (And.intro (or1_lo hXe) (And.intro (or1_lo hYe) (And.intro (or1_hi hXe) (or1_hi hYe)))))
      clear eN eY eX hge e1 e2 HT HQB HLT HGE
      go_wp2_with fail
      refine (isBelowZero_any (Wd.mk' h1 h2 hR) _).mono ?_
      rintro e w29 ⟨rfl, hb29⟩
      have hb29' := below_step (w := w) (by go_grown) hb29
      have hs29 := hb29'.size
      have KF29 : W3 w29 w.heap.size W n <| W3 w29 (w.heap.size + 1) W m <| W3 w29 (w.heap.size + 1 + 1) W Q <| F3 w29 (w.heap.size + 1 + 1) <| W3 w29 (w.heap.size + 1 + 1 + 1) W R <| F3 w29 (w.heap.size + 1 + 1 + 1) <| True := (by refine k3 hb29 ?_ ?_ ?_ <| k3 hb29 ?_ ?_ ?_ <| k3 hb29 ?_ ?_ ?_ <| f3 hb29 ?_ ?_ <| k3 hb29 ?_ ?_ ?_ <| f3 hb29 ?_ ?_ <| trivial <;> (first | (simp [go_sem]; done) | (simp [go_sem, KF0]; done) | (simp [go_sem, KF0, World.cell?_alloc_some, frozen?_alloc_cells]; done))); have KF29z0 := zT KF29; have KF29z1 := zT KF29.2.2.2; have KF29z2 := zT KF29.2.2.2.2.2.2; have KF29z3 := zT KF29.2.2.2.2.2.2.2.2.2.2
      clear hb29 KF0
      go_wp2_with fail
      refine (dbl_any (Wd.mk' h1 h2 hR) _).mono ?_
      rintro e w30 ⟨rfl, hb30⟩
      have hb30' := below_step (w := w) (by go_grown) hb30
      have hs30 := hb30'.size
      have KF30 : W3 w30 w.heap.size W n <| W3 w30 (w.heap.size + 1) W m <| W3 w30 (w.heap.size + 1 + 1) W Q <| F3 w30 (w.heap.size + 1 + 1) <| W3 w30 (w.heap.size + 1 + 1 + 1) W R <| F3 w30 (w.heap.size + 1 + 1 + 1) <| True := (by refine k3 hb30 ?_ ?_ ?_ <| k3 hb30 ?_ ?_ ?_ <| k3 hb30 ?_ ?_ ?_ <| f3 hb30 ?_ ?_ <| k3 hb30 ?_ ?_ ?_ <| f3 hb30 ?_ ?_ <| trivial <;> (first | (simp [go_sem]; done) | (simp [go_sem, KF29]; done) | (simp [go_sem, KF29, World.cell?_alloc_some, frozen?_alloc_cells]; done))); have KF30z0 := zT KF30; have KF30z1 := zT KF30.2.2.2; have KF30z2 := zT KF30.2.2.2.2.2.2; have KF30z3 := zT KF30.2.2.2.2.2.2.2.2.2.2
      clear hb30 KF29
      go_wp2_with fail
      refine (dbl_any (Wd.mk' h1 h2 hQ) _).mono ?_
      rintro e w31 ⟨rfl, hb31⟩
      have hb31' := below_step (w := w) (by go_grown) hb31
      have hs31 := hb31'.size
      have KF31 : W3 w31 w.heap.size W n <| W3 w31 (w.heap.size + 1) W m <| W3 w31 (w.heap.size + 1 + 1) W Q <| F3 w31 (w.heap.size + 1 + 1) <| W3 w31 (w.heap.size + 1 + 1 + 1) W (dbl W R) <| F3 w31 (w.heap.size + 1 + 1 + 1) <| True := (by refine k3 hb31 ?_ ?_ ?_ <| k3 hb31 ?_ ?_ ?_ <| k3 hb31 ?_ ?_ ?_ <| f3 hb31 ?_ ?_ <| k3 hb31 ?_ ?_ ?_ <| f3 hb31 ?_ ?_ <| trivial <;> (first | (simp [go_sem]; done) | (simp [go_sem, KF30]; done) | (simp [go_sem, KF30, World.cell?_alloc_some, frozen?_alloc_cells]; done))); have KF31z0 := zT KF31; have KF31z1 := zT KF31.2.2.2; have KF31z2 := zT KF31.2.2.2.2.2.2; have KF31z3 := zT KF31.2.2.2.2.2.2.2.2.2.2
      clear hb31 KF30
      go_wp2_with fail
      refine (bitAt_any (i := W - 1 - k) (Wd.mk' h1 h2 hn) (by omega) (by omega) _).mono ?_
      rintro e w32 ⟨rfl, hb32⟩
      have hb32' := below_step (w := w) (by go_grown) hb32
      have hs32 := hb32'.size
      have KF32 : W3 w32 w.heap.size W n <| W3 w32 (w.heap.size + 1) W m <| W3 w32 (w.heap.size + 1 + 1) W (dbl W Q) <| F3 w32 (w.heap.size + 1 + 1) <| W3 w32 (w.heap.size + 1 + 1 + 1) W (dbl W R) <| F3 w32 (w.heap.size + 1 + 1 + 1) <| True := (by refine k3 hb32 ?_ ?_ ?_ <| k3 hb32 ?_ ?_ ?_ <| k3 hb32 ?_ ?_ ?_ <| f3 hb32 ?_ ?_ <| k3 hb32 ?_ ?_ ?_ <| f3 hb32 ?_ ?_ <| trivial <;> (first | (simp [go_sem]; done) | (simp [go_sem, KF31]; done) | (simp [go_sem, KF31, World.cell?_alloc_some, frozen?_alloc_cells]; done))); have KF32z0 := zT KF32; have KF32z1 := zT KF32.2.2.2; have KF32z2 := zT KF32.2.2.2.2.2.2; have KF32z3 := zT KF32.2.2.2.2.2.2.2.2.2.2
      clear hb32 KF31
      go_wp2_with fail
      refine (subtract_any (n := dbl W R + 1) ⟨h1, h2, hX1, rfl, or1_lo hXe, or1_hi hXe⟩ (Wd.mk' h1 h2 hn') _).mono ?_
      rintro e w33 ⟨rfl, hb33⟩
      have hb33' := below_step (w := w) (by go_grown) hb33
      have hs33 := hb33'.size
      have KF33 : W3 w33 w.heap.size W n <| W3 w33 (w.heap.size + 1) W m <| W3 w33 (w.heap.size + 1 + 1) W (dbl W Q) <| F3 w33 (w.heap.size + 1 + 1) <| T3 w33 (w.heap.size + 1 + 1 + 1) (.int .i64 W) (.int .u64 (bits .or .u64 (LO (dbl W R)) 1)) (.int .u64 (HI (dbl W R))) <| F3 w33 (w.heap.size + 1 + 1 + 1) <| True := (by refine k3 hb33 ?_ ?_ ?_ <| k3 hb33 ?_ ?_ ?_ <| k3 hb33 ?_ ?_ ?_ <| f3 hb33 ?_ ?_ <| k3 hb33 ?_ ?_ ?_ <| f3 hb33 ?_ ?_ <| trivial <;> (first | (simp [go_sem]; done) | (simp [go_sem, KF32]; done) | (simp [go_sem, KF32, World.cell?_alloc_some, frozen?_alloc_cells]; done))); have KF33z0 := zT KF33; have KF33z1 := zT KF33.2.2.2; have KF33z2 := zT KF33.2.2.2.2.2.2; have KF33z3 := zT KF33.2.2.2.2.2.2.2.2.2.2
      clear hb33 KF32
      go_wp2_with fail
      have KFE := And.intro KF33 HE.out
      refine ⟨⟨k + 1, by omega, by go_num, ⟨?_, ?_, ?_⟩, ⟨?_, ?_, ?_⟩, ⟨?_, ?_, ?_⟩, ⟨?_, ?_, ?_⟩, ?_, ?_, ?_⟩, by simp [intOf]; omega⟩
      all_goals first | (simp [go_sem, KFE]; done) | (intro j; simp [go_sem, KFE]; done) | go_grown
   ·obtain rfl : k = W := by omega
    have KF0 := And.intro hq hr
    simp only [Nat.sub_self, Nat.pow_zero, Nat.div_one] at KF0
    clear hq hr
    go_wp2_with fail
    go_region
    all_goals
     go_wp2_with fail
     refine bodyPost_ret (v := .tuple #[.agg #[.int .i64 k, .int .u64 (LO (n / m)), .int .u64 (HI (n / m))], .agg #[.int .i64 k, .int .u64 (LO (n % m)), .int .u64 (HI (n % m))]]) (by simp [results, Try.results97, go_sem, KF0]) rfl ?_
     exact ⟨rfl, by go_grown⟩
end Go.Proofs.Ytedldoobmmhloaa
