import Derived.Test.YtejljdbkocnhlaaGreatMg23
import Derived.Test.YtejljdbkocnhlaaGreatK
import Derived.Test.YtejljdbkocnhlaaGreatMg20
import Derived.Test.YtejljdbkocnhlaaGreatE
import Derived.Test.YtejljdbkocnhlaaGreatMg15
import Derived.Test.YtejljdbkocnhlaaGreatN
import Derived.Test.YtejljdbkocnhlaaGreatMg10
import Derived.Test.YtejljdbkocnhlaaGreatMg11
import Derived.Test.YtejljdbkocnhlaaGreatMg7
namespace Go.Proofs.YtejljdbkocnhlaaGreat
set_option maxHeartbeats 12800000
set_option maxRecDepth 100000
open Go.RowKit
set_option linter.unusedSimpArgs false
set_option linter.unusedVariables false
theorem b01_lt (c : Bool) : b01 c < 2 := by cases c <;> decide
theorem two_comp {W n m : Nat} {c : Bool} {WW lo hi WW' lo' hi' : Int} (hc : eqB n m = c) (hw : Wd WW lo hi W n) (hw' : Wd WW' lo' hi' W m) (w : World) :
  Rt 87 #[.int .i64 37, .agg #[.int .i64 WW, .int .u64 lo, .int .u64 hi], .agg #[.int .i64 WW', .int .u64 lo', .int .u64 hi']] w (.tuple #[.agg #[.int .i64 1, .int .u64 (LO (b01 c)), .int .u64 (HI (b01 c))], .int .i64 0]) := by
 obtain ⟨h1, h2, hn, rfl, rfl, rfl⟩ := hw
 obtain ⟨-, -, hn', rfl, rfl, rfl⟩ := hw'
 have hq : ∀ w, (binOp .eql 34 (.agg #[.int .i64 W, .int .u64 (LO (n)), .int .u64 (HI (n))]) (.agg #[.int .i64 W, .int .u64 (LO (m)), .int .u64 (HI (m))])).run Tryz.prog w = .ok (.bool c) w := fun w => by rw [← hc]; exact eq_w W n m w
 clear hc
 have HC : Hid (∀ wx, Rt 103 #[.int .i64 1, .int .u64 (LO (b01 c)), .int .u64 0] wx (.agg #[.int .i64 1, .int .u64 (LO (b01 c)), .int .u64 (HI (b01 c))])) := fun wx =>
  cut_any (W := 1) (m := b01 c) (r := b01 c) (by decide) (by decide) (Nat.lt_of_lt_of_le (b01_lt c) (by decide)) (Nat.mod_eq_of_lt (b01_lt c)) rfl rfl (b01_hi c) wx
 have hfl := field_lo
 go_enter Tryz.func87, Tryz.ntmps87
 go_wp2_with fail
 refine (isWord_any (Wd.mk' h1 h2 hn) _).mono ?_
 rintro e w1 ⟨rfl, hb1⟩
 have hb1' := below_step (w := w) (by go_grown) hb1
 have hs1 := hb1'.size
 have KF1 : W3 w1 w.heap.size W n <| F3 w1 w.heap.size <| W3 w1 (w.heap.size + 1) W m <| F3 w1 (w.heap.size + 1) <| S3 w1 (w.heap.size + 1 + 1) <| F3 w1 (w.heap.size + 1 + 1) <| True := (by refine k3 hb1 ?_ ?_ ?_ <| f3 hb1 ?_ ?_ <| k3 hb1 ?_ ?_ ?_ <| f3 hb1 ?_ ?_ <| s3 hb1 ?_ ?_ ?_ <| f3 hb1 ?_ ?_ <| trivial <;> (first | (simp [go_sem]; done))); have KF1z0 := zT KF1; have KF1z1 := zT KF1.2.2.2.2; have KF1z2 := zT KF1.2.2.2.2.2.2.2.2
 clear hb1
 go_wp2_with fail
 refine (isWord_any (Wd.mk' h1 h2 hn') _).mono ?_
 rintro e w2 ⟨rfl, hb2⟩
 have hb2' := below_step (w := w) (by go_grown) hb2
 have hs2 := hb2'.size
 have KF2 : W3 w2 w.heap.size W n <| F3 w2 w.heap.size <| W3 w2 (w.heap.size + 1) W m <| F3 w2 (w.heap.size + 1) <| S3 w2 (w.heap.size + 1 + 1) <| F3 w2 (w.heap.size + 1 + 1) <| True := (by refine k3 hb2 ?_ ?_ ?_ <| f3 hb2 ?_ ?_ <| k3 hb2 ?_ ?_ ?_ <| f3 hb2 ?_ ?_ <| s3 hb2 ?_ ?_ ?_ <| f3 hb2 ?_ ?_ <| trivial <;> (first | (simp [go_sem]; done) | (simp [go_sem, KF1]; done) | (simp [go_sem, KF1, World.cell?_alloc_some, frozen?_alloc_cells]; done))); have KF2z0 := zT KF2; have KF2z1 := zT KF2.2.2.2.2; have KF2z2 := zT KF2.2.2.2.2.2.2.2.2
 clear hb2 KF1
 go_wp2_with fail
 refine (bool_b c _).mono ?_
 rintro e w3 ⟨rfl, hb3⟩
 have hb3' := below_step (w := w) (by go_grown) hb3
 have hs3 := hb3'.size
 have KF3 : W3 w3 w.heap.size W n <| F3 w3 w.heap.size <| W3 w3 (w.heap.size + 1) W m <| F3 w3 (w.heap.size + 1) <| S3 w3 (w.heap.size + 1 + 1) <| F3 w3 (w.heap.size + 1 + 1) <| True := (by refine k3 hb3 ?_ ?_ ?_ <| f3 hb3 ?_ ?_ <| k3 hb3 ?_ ?_ ?_ <| f3 hb3 ?_ ?_ <| s3 hb3 ?_ ?_ ?_ <| f3 hb3 ?_ ?_ <| trivial <;> (first | (simp [go_sem]; done) | (simp [go_sem, KF2]; done) | (simp [go_sem, KF2, World.cell?_alloc_some, frozen?_alloc_cells]; done))); have KF3z0 := zT KF3; have KF3z1 := zT KF3.2.2.2.2; have KF3z2 := zT KF3.2.2.2.2.2.2.2.2
 clear hb3 KF2
 go_wp2_with fail
 refine (HC.out _).mono ?_
 rintro e w4 ⟨rfl, hb4⟩
 have hb4' := below_step (w := w) (by go_grown) hb4
 have hs4 := hb4'.size
 have KF4 : W3 w4 w.heap.size W n <| F3 w4 w.heap.size <| W3 w4 (w.heap.size + 1) W m <| F3 w4 (w.heap.size + 1) <| S3 w4 (w.heap.size + 1 + 1) <| F3 w4 (w.heap.size + 1 + 1) <| True := (by refine k3 hb4 ?_ ?_ ?_ <| f3 hb4 ?_ ?_ <| k3 hb4 ?_ ?_ ?_ <| f3 hb4 ?_ ?_ <| s3 hb4 ?_ ?_ ?_ <| f3 hb4 ?_ ?_ <| trivial <;> (first | (simp [go_sem]; done) | (simp [go_sem, KF3]; done) | (simp [go_sem, KF3, World.cell?_alloc_some, frozen?_alloc_cells]; done))); have KF4z0 := zT KF4; have KF4z1 := zT KF4.2.2.2.2; have KF4z2 := zT KF4.2.2.2.2.2.2.2.2
 clear hb4 KF3
 go_wp2_with fail
 refine bodyPost_ret (v := .tuple #[.agg #[.int .i64 1, .int .u64 (LO (b01 c)), .int .u64 (HI (b01 c))], .int .i64 0]) (by simp [results, Tryz.results87, go_sem, *]) rfl ?_
 exact ⟨rfl, by go_grown⟩
open Go.RowKit
def lowop (k W n m : Nat) : Nat :=
 match k with
 | 0 => n &&& m
 | 1 => n ||| m
 | 2 => n ^^^ m
 | 3 => 2 ^ W - 1 - (n &&& m)
 | 4 => 2 ^ W - 1 - (n ||| m)
 | 5 => 2 ^ W - 1 - (n ^^^ m)
 | 6 => (n + m) % 2 ^ W
 | 7 => (n + neg W m) % 2 ^ W
 | _ => n * m % 2 ^ W
theorem lowop_lt {k W n m : Nat} (hn : n < 2 ^ W) (hm : m < 2 ^ W) : lowop k W n m < 2 ^ W := by
 have := Nat.two_pow_pos W
 unfold lowop
 split
 ·exact Nat.lt_of_le_of_lt Nat.and_le_left hn
 ·exact Nat.or_lt_two_pow hn hm
 ·exact Nat.xor_lt_two_pow hn hm
 ·omega
 ·omega
 ·omega
 ·exact mod_lt_W _ _
 ·exact mod_lt_W _ _
 ·exact mod_lt_W _ _
open Go.RowKit
def sh (k W n d : Nat) : Nat :=
 match k with
 | 0 => n * 2 ^ d % 2 ^ W
 | 1 => n / 2 ^ d
 | _ => if n.testBit (W - 1) then 2 ^ W - 1 - (2 ^ W - 1 - n) / 2 ^ d else n / 2 ^ d
theorem sh_lt {k W n d : Nat} (hn : n < 2 ^ W) : sh k W n d < 2 ^ W := by
 have := Nat.two_pow_pos W
 have h2 := Nat.lt_of_le_of_lt (Nat.div_le_self n (2 ^ d)) hn
 unfold sh
 split
 ·exact mod_lt_W _ _
 ·exact h2
 ·split
  ·exact turn_lt _ W
  ·exact h2
def far (k W n : Nat) : Nat := if k = 2 ∧ n.testBit (W - 1) = true then 2 ^ W - 1 else 0
open Go.RowKit
def sg (b : Bool) : Int := if b then -1 else 1
theorem smod_lt {W n m : Nat} (hn : n < 2 ^ W) : smod W n m < 2 ^ W := by
 unfold smod; split
 ·exact mod_lt_W _ _
 ·exact wsign_lt (urem_lt (wsign_lt hn))
theorem sdiv_lt {W n m : Nat} (hn : n < 2 ^ W) : sdiv W n m < 2 ^ W := by
 unfold sdiv; split
 ·exact neg_lt _ _
 ·exact udiv_lt (wsign_lt hn)
theorem srem_lt {W n m : Nat} (hn : n < 2 ^ W) : srem W n m < 2 ^ W := wsign_lt (urem_lt (wsign_lt hn))
open Go.RowKit
theorem word_is {b : Bt} (hk : Bk b) (h : 1 ≤ sof b) : ∃ W n : Nat, 1 ≤ W ∧ W ≤ 128 ∧ n < 2 ^ W ∧ b = ⟨(W : Int), LO n, HI n⟩ ∧ sof b = (W : Int) := by
 have hs : sof b = b.w ∧ rgt b.w b.lo b.hi = true := by
  unfold sof at h ⊢
  split at h
  ·rename_i hr; rw [if_pos hr]; exact ⟨rfl, hr⟩
  ·omega
 obtain ⟨hs, hr⟩ := hs
 rw [hs] at h
 unfold rgt at hr
 have h0 : ¬ b.w = 0 := by omega
 simp only [h0, if_false, Bool.and_eq_true, decide_eq_true_eq] at hr
 obtain ⟨⟨r1, r2⟩, r3⟩ := hr
 have a1 := hk.l0
 have a2 := hk.l1
 have a3 := hk.h0
 have a4 := hk.h1
 have e2 : ((2 : Int) ^ b.w.toNat) = ((2 ^ b.w.toNat : Nat) : Int) := by simp
 rw [e2] at r3
 refine ⟨b.w.toNat, (b.lo + 18446744073709551616 * b.hi).toNat, by omega, by omega, by omega, ?_, by omega⟩
 have e3 : ((b.w.toNat : Nat) : Int) = b.w := by omega
 have e4 : LO (b.lo + 18446744073709551616 * b.hi).toNat = b.lo := by unfold LO; omega
 have e5 : HI (b.lo + 18446744073709551616 * b.hi).toNat = b.hi := by unfold HI; omega
 rw [e3, e4, e5]
def Prg (f : Nat) (xs : Array Value) (r : Bt) : Prop := ∀ wx, Calls Tryz.prog f xs wx fun e w' => e = .returned (.tuple #[.agg #[.int .i64 r.w, .int .u64 r.lo, .int .u64 r.hi], .int .i64 0]) ∧ Below wx.heap.size wx w'
def Fit (f : Nat) (xs : Array Value) (s : Int) : Prop := ∃ r, Prg f xs r ∧ Bk r ∧ sof r = s
theorem fw {K R : Nat} {S : Int} (h1 : 1 ≤ K) (h2 : K ≤ 128) (hR : R < 2 ^ K) (hS : S = (K : Int)) : Bk ⟨S, LO R, HI R⟩ ∧ sof ⟨S, LO R, HI R⟩ = S := by
 subst hS
 have hp : (2 : Nat) ^ K ≤ 2 ^ 128 := Nat.pow_le_pow_right (by decide) h2
 have hr : R < 2 ^ 128 := Nat.lt_of_lt_of_le hR hp
 have a1 : 0 ≤ LO R := by unfold LO; omega
 have a2 : LO R < 18446744073709551616 := by unfold LO; omega
 have a3 : 0 ≤ HI R := by unfold HI; omega
 have a4 : HI R < 18446744073709551616 := by unfold HI; omega
 have e : LO R + 18446744073709551616 * HI R = (R : Int) := by unfold LO HI; omega
 have e2 : ((2 : Int) ^ ((K : Int)).toNat) = ((2 ^ K : Nat) : Int) := by simp
 refine ⟨⟨a1, a2, a3, a4⟩, ?_⟩
 have hg : rgt (K : Int) (LO R) (HI R) = true := by
  unfold rgt
  have h0 : ¬ (K : Int) = 0 := by omega
  simp only [h0, if_false, Bool.and_eq_true, decide_eq_true_eq]
  refine ⟨⟨by omega, by omega⟩, ?_⟩
  rw [e, e2]; omega
 unfold sof
 rw [if_pos hg]
theorem fb (c : Bool) : Bk ⟨0, LO (b01 c), HI (b01 c)⟩ ∧ sof ⟨0, LO (b01 c), HI (b01 c)⟩ = 0 := by
 cases c
 ·exact ⟨⟨by decide, by decide, by decide, by decide⟩, by decide⟩
 ·exact ⟨⟨by decide, by decide, by decide, by decide⟩, by decide⟩
def tws (op : Int) (W : Nat) : Int := if op ≤ 28 then W else if op ≤ 36 then 0 else 1
theorem tw1 {op : Int} {W : Nat} {r : Bt} (ho : op ≤ 28) (h : Bk r ∧ sof r = (W : Int)) : Bk r ∧ sof r = tws op W := ⟨h.1, h.2.trans (by unfold tws; rw [if_pos ho])⟩
theorem tw2 {op : Int} {W : Nat} {r : Bt} (h1 : 29 ≤ op) (h2 : op ≤ 36) (h : Bk r ∧ sof r = 0) : Bk r ∧ sof r = tws op W := ⟨h.1, h.2.trans (by unfold tws; rw [if_neg (by omega), if_pos h2])⟩
theorem two_fit {op : Int} {W N N' : Nat} (h1 : 1 ≤ W) (h2 : W ≤ 128) (hn : N < 2 ^ W) (hm : N' < 2 ^ W) (o1 : 12 ≤ op) (o2 : op ≤ 37) : Fit 87 #[.int .i64 op, .agg #[.int .i64 W, .int .u64 (LO (N)), .int .u64 (HI (N))], .agg #[.int .i64 W, .int .u64 (LO (N')), .int .u64 (HI (N'))]] (tws op W) := by
 have wa := Wd.mk' h1 h2 hn
 have wb := Wd.mk' h1 h2 hm
 by_cases ho : 12 ≤ op ∧ op ≤ 28
 ·obtain ⟨k, rfl⟩ : ∃ k : Nat, op = 12 + (k : Int) := ⟨(op - 12).toNat, by omega⟩
  by_cases hk5 : k ≤ 5
  ·refine ⟨⟨_, _, _⟩, fun wx => ?_, tw1 (by omega) (fw h1 h2 (lowop_lt (k := k) hn hm) rfl)⟩
   have hk6 : k = 0 ∨ k = 1 ∨ k = 2 ∨ k = 3 ∨ k = 4 ∨ k = 5 := by omega
   rcases hk6 with rfl | rfl | rfl | rfl | rfl | rfl
   ·exact two_and wa wb wx
   ·exact two_or wa wb wx
   ·exact two_xor wa wb wx
   ·exact two_nand wa wb wx
   ·exact two_nor wa wb wx
   ·exact two_xnor wa wb wx
  ·have hk6 : k = 6 ∨ k = 7 ∨ k = 8 ∨ k = 9 ∨ k = 10 ∨ k = 11 ∨ k = 12 ∨ k = 13 ∨ k = 14 ∨ k = 15 ∨ k = 16 := by omega
   rcases hk6 with rfl | rfl | rfl | rfl | rfl | rfl | rfl | rfl | rfl | rfl | rfl
   ·exact ⟨⟨_, _, _⟩, fun wx => two_add wa wb wx, tw1 (by omega) (fw h1 h2 (lowop_lt (k := 6) hn hm) rfl)⟩
   ·exact ⟨⟨_, _, _⟩, fun wx => two_sub wa wb wx, tw1 (by omega) (fw h1 h2 (lowop_lt (k := 7) hn hm) rfl)⟩
   ·exact ⟨⟨_, _, _⟩, fun wx => two_mul wa wb wx, tw1 (by omega) (fw h1 h2 (lowop_lt (k := 8) hn hm) rfl)⟩
   ·exact ⟨⟨_, _, _⟩, fun wx => two_udiv wa wb wx, tw1 (by omega) (fw h1 h2 (udiv_lt hn) rfl)⟩
   ·exact ⟨⟨_, _, _⟩, fun wx => two_urem wa wb wx, tw1 (by omega) (fw h1 h2 (urem_lt hn) rfl)⟩
   ·exact ⟨⟨_, _, _⟩, fun wx => two_signed (Or.inl ⟨rfl, rfl⟩) wa wb wx, tw1 (by omega) (fw h1 h2 (sdiv_lt hn) rfl)⟩
   ·exact ⟨⟨_, _, _⟩, fun wx => two_signed (Or.inr (Or.inl ⟨rfl, rfl⟩)) wa wb wx, tw1 (by omega) (fw h1 h2 (srem_lt hn) rfl)⟩
   ·exact ⟨⟨_, _, _⟩, fun wx => two_signed (Or.inr (Or.inr ⟨rfl, rfl⟩)) wa wb wx, tw1 (by omega) (fw h1 h2 (smod_lt hn) rfl)⟩
   ·exact ⟨⟨_, _, _⟩, fun wx => two_shl wa wb wx, tw1 (by omega) (fw h1 h2 (sh_lt (k := 0) (d := dist N' W) hn) rfl)⟩
   ·exact ⟨⟨_, _, _⟩, fun wx => two_lshr wa wb wx, tw1 (by omega) (fw h1 h2 (sh_lt (k := 1) (d := dist N' W) hn) rfl)⟩
   ·refine ⟨⟨_, _, _⟩, fun wx => ?_, tw1 (by omega) (fw h1 h2 (sh_lt (k := 2) (d := dist N' W) hn) rfl)⟩
    cases hs : N.testBit (W - 1)
    ·have e : sh 2 W N (dist N' W) = N / 2 ^ dist N' W := by simp [sh, hs]
     rw [e]; exact two_ashr0 wa wb hs wx
    ·have e : sh 2 W N (dist N' W) = 2 ^ W - 1 - (2 ^ W - 1 - N) / 2 ^ dist N' W := by simp [sh, hs]
     rw [e]; exact two_ashr1 wa wb hs wx
 ·by_cases hc : 29 ≤ op ∧ op ≤ 36
  ·obtain ⟨k, rfl⟩ : ∃ k : Nat, op = 29 + (k : Int) := ⟨(op - 29).toNat, by omega⟩
   exact ⟨⟨_, _, _⟩, fun wx => two_cmp rfl (by omega) wa wb wx, tw2 (by omega) (by omega) (fb _)⟩
  ·obtain rfl : op = 37 := by omega
   exact ⟨⟨_, _, _⟩, fun wx => two_comp rfl wa wb wx, (fw (K := 1) (by decide) (by decide) (b01_lt _) rfl).1, (fw (K := 1) (by decide) (by decide) (b01_lt _) rfl).2⟩
theorem one_fit10 {W N : Nat} (h1 : 1 ≤ W) (h2 : W ≤ 128) (hn : N < 2 ^ W) : Fit 75 #[.int .i64 10, .agg #[.int .i64 W, .int .u64 (LO (N)), .int .u64 (HI (N))]] W :=
 ⟨⟨_, _, _⟩, fun wx => one_not (Wd.mk' h1 h2 hn) wx, fw h1 h2 (by omega) rfl⟩
theorem one_fit11 {W N : Nat} (h1 : 1 ≤ W) (h2 : W ≤ 128) (hn : N < 2 ^ W) : Fit 75 #[.int .i64 11, .agg #[.int .i64 W, .int .u64 (LO (N)), .int .u64 (HI (N))]] W :=
 ⟨⟨_, _, _⟩, fun wx => one_neg (Wd.mk' h1 h2 hn) wx, fw h1 h2 (neg_lt _ _) rfl⟩
theorem concat_fit {W N V N' : Nat} (h1 : 1 ≤ W) (h2 : W ≤ 128) (hn : N < 2 ^ W) (k1 : 1 ≤ V) (k2 : V ≤ 128) (hm : N' < 2 ^ V) (hs : W + V ≤ 128) : Fit 77 #[.agg #[.int .i64 W, .int .u64 (LO (N)), .int .u64 (HI (N))], .agg #[.int .i64 V, .int .u64 (LO (N')), .int .u64 (HI (N'))]] ((W : Int) + V) :=
 ⟨⟨_, _, _⟩, fun wx => concat_any (Wd.mk' h1 h2 hn) (Wd.mk' k1 k2 hm) hs wx, fw (K := W + V) (by omega) hs (cat_lt hn hm) (by simp)⟩
theorem extract_fit {W N : Nat} {i j : Int} (h1 : 1 ≤ W) (h2 : W ≤ 128) (hn : N < 2 ^ W) (hp : i < W ∧ j ≤ i ∧ 0 ≤ j) : Fit 79 #[.agg #[.int .i64 W, .int .u64 (LO (N)), .int .u64 (HI (N))], .int .i64 i, .int .i64 j] (i - j + 1) := by
 obtain ⟨i', rfl⟩ : ∃ i' : Nat, i = i' := ⟨i.toNat, by omega⟩
 obtain ⟨j', rfl⟩ : ∃ j' : Nat, j = j' := ⟨j.toNat, by omega⟩
 exact ⟨⟨_, _, _⟩, fun wx => extract_any (Wd.mk' h1 h2 hn) rfl rfl (by omega) (by omega) wx, fw (K := i' - j' + 1) (by omega) (by omega) (Nat.mod_lt _ (Nat.two_pow_pos _)) (by omega)⟩
theorem extend_fit {W N : Nat} {i : Int} (c : Bool) (h1 : 1 ≤ W) (h2 : W ≤ 128) (hn : N < 2 ^ W) (hp : 0 ≤ i) (hq : i ≤ 128 - (W : Int)) : Fit 81 #[.agg #[.int .i64 W, .int .u64 (LO (N)), .int .u64 (HI (N))], .int .i64 i, .bool c] ((W : Int) + i) := by
 obtain ⟨k, rfl⟩ : ∃ k : Nat, i = k := ⟨i.toNat, by omega⟩
 by_cases hs : (c && N.testBit (W - 1)) = true
 ·obtain ⟨rfl, ht⟩ : c = true ∧ N.testBit (W - 1) = true := by simpa using hs
  exact ⟨⟨_, _, _⟩, fun wx => extend_sign (Wd.mk' h1 h2 hn) rfl (by omega) ht wx, fw (K := W + k) (by omega) (by omega) (wide_lt _ _ _) (by simp)⟩
 ·have hs' : (c && N.testBit (W - 1)) = false := by simpa using hs
  exact ⟨⟨_, _, _⟩, fun wx => extend_zero (b := c) (Wd.mk' h1 h2 hn) rfl (by omega) (by cases c; exact Or.inl rfl; exact Or.inr (by simpa using hs')) wx, fw (K := W + k) (by omega) (by omega) (Nat.lt_of_lt_of_le hn (Nat.pow_le_pow_right (by decide) (by omega))) (by simp)⟩
theorem rotate_fit {W N : Nat} {i : Int} (c : Bool) (h1 : 1 ≤ W) (h2 : W ≤ 128) (hn : N < 2 ^ W) (hp : 0 ≤ i) (hi : i < 9223372036854775808) : Fit 83 #[.agg #[.int .i64 W, .int .u64 (LO (N)), .int .u64 (HI (N))], .int .i64 i, .bool c] W := by
 obtain ⟨k, rfl⟩ : ∃ k : Nat, i = k := ⟨i.toNat, by omega⟩
 cases c
 ·exact ⟨⟨_, _, _⟩, fun wx => rotate_right (Wd.mk' h1 h2 hn) rfl (by omega) wx, fw h1 h2 (rot_lt hn) rfl⟩
 ·exact ⟨⟨_, _, _⟩, fun wx => rotate_left (Wd.mk' h1 h2 hn) rfl (by omega) wx, fw h1 h2 (rot_lt hn) rfl⟩
theorem repeat_fit {W N : Nat} {i : Int} (h1 : 1 ≤ W) (h2 : W ≤ 128) (hn : N < 2 ^ W) (hp : 1 ≤ i) (hq : W * i.toNat ≤ 128) : Fit 85 #[.agg #[.int .i64 W, .int .u64 (LO (N)), .int .u64 (HI (N))], .int .i64 i] ((W : Int) * i) := by
 obtain ⟨k, rfl⟩ : ∃ k : Nat, i = k := ⟨i.toNat, by omega⟩
 have hk : k ≤ 128 / W := by
  rw [Nat.le_div_iff_mul_le (by omega), Nat.mul_comm]
  simpa using hq
 have hwk : 1 ≤ W * k := Nat.mul_pos (by omega) (by omega)
 exact ⟨⟨_, _, _⟩, fun wx => repeat_any (Wd.mk' h1 h2 hn) rfl (by omega) hk wx, (fw (K := wk W k) hwk (by show W * k ≤ 128; simpa using hq) (rep_lt hn k) rfl).1, (fw (K := wk W k) hwk (by show W * k ≤ 128; simpa using hq) (rep_lt hn k) rfl).2.trans (by unfold wk; simp)⟩
open Go.RowKit
structure Wk (w : World) (wb g mg mk : Nat) (G M : List (Int × Bt)) : Prop where
 hd : w.heap[wb]? = some (.cells #[.pointer (some ⟨g, 0, none⟩), .map (some mg), .map (some mk)] 97)
 gv : Bm w mg G
 kn : Bm w mk M
 ne : mg ≠ mk ∧ mg ≠ wb ∧ mk ≠ wb
theorem Wk.below {w w' : World} {wb g mg mk : Nat} {G M : List (Int × Bt)} (h : Wk w wb g mg mk G M) (hb : Below w.heap.size w w') : Wk w' wb g mg mk G M :=
 ⟨(hb.block _ (Array.getElem?_eq_some_iff.1 h.hd).1).trans h.hd, h.gv.kept (hb.block _ h.gv.mp.lt), h.kn.kept (hb.block _ h.kn.mp.lt), h.ne⟩
theorem nw_any {w : World} {B g mi mv mo c : Nat} {v : Value} {ns : List Nd} {a : Option Addr} {l : List Nv} (h : Gr w B g mi mv v mo ns) (he : Le w a l) (hnm : ∀ x ∈ l, x.nm.size ≤ maxLen) (hl : l.length ≤ 1000) :
  Calls Tryz.prog 26 #[.pointer (some ⟨g, 0, none⟩), .slice a l.length c] w fun e w' => ∃ wb mk, e = .returned (.pointer (some ⟨wb, 0, none⟩)) ∧ w.heap.size ≤ wb ∧ w.heap.size ≤ mk ∧ Wk w' wb g w.heap.size mk (fvF ns l) [] ∧ Below w.heap.size w w' := by
 have HF : Hid _ := fv_any (c := c) h he hnm hl
 have hmm := @run_makeMap Tryz.prog
 obtain ⟨n, hn⟩ : ∃ n, n = l.length := ⟨_, rfl⟩
 rw [← hn] at HF ⊢
 clear h he hnm hl hn
 go_enter Tryz.func26, Tryz.ntmps26
 go_wp2_with fail
 refine Calls.mono HF.out ?_
 rintro e w1 ⟨rfl, hM, hb⟩
 have HM : Hid _ := hM
 have hs := hM.mp.lt
 clear hM
 go_wp2_with fail
 go_ret
 refine ⟨_, _, rfl, ?_, ?_, ⟨?_, (HM.out.kept (heap_alloc_old w1 (.map #[] 0) hs)).kept (heap_alloc_old _ _ (by rw [size_alloc']; omega)), (Bm.made w1).kept (heap_alloc_old _ _ (by rw [size_alloc']; omega)), ?_, ?_, ?_⟩, (hb.alloc hb.size _).alloc (by rw [size_alloc']; have := hb.size; omega) _⟩
 ·have := hb.size; omega
 ·exact hb.size
 ·have := heap_alloc_new (w1.alloc (.map #[] 0)) (.cells #[.pointer (some ⟨g, 0, none⟩), .map (some w.heap.size), .map (some w1.heap.size)] 97)
  rw [size_alloc'] at this
  exact this
 ·omega
 ·omega
 ·omega
theorem pv_const {w : World} {B g mi mv mo wb mg mk i : Nat} {v : Value} {ns : List Nd} {G M : List (Int × Bt)} {n : Nd} (h : Gr w B g mi mv v mo ns) (hw : Wk w wb g mg mk G M) (hi : ns[i]? = some n) (hop : n.op = 1) :
  Rt 48 #[.pointer (some ⟨wb, 0, none⟩), .int .i64 ((i : Int) + 1)] w (.tuple #[.agg #[.int .i64 n.w, .int .u64 n.lo, .int .u64 n.hi], .int .i64 0]) := by
 have c0 : w.cell? ⟨wb, 0, none⟩ = some (.pointer (some ⟨g, 0, none⟩)) := cell_of hw.hd 0 rfl
 have hwb : wb < w.heap.size := (Array.getElem?_eq_some_iff.1 hw.hd).1
 have HND : Hid (∀ wx, Below w.heap.size w wx → Rt 19 #[.pointer (some ⟨g, 0, none⟩), .int .i64 ((i : Int) + 1)] wx (.tuple #[.agg #[.int .i64 n.op, .int .i64 n.s, .int .i64 n.a, .int .i64 n.b, .int .i64 n.c, .int .i64 n.p, .int .i64 n.q, .int .i64 n.w, .int .u64 n.lo, .int .u64 n.hi, .string n.nm], .bool true])) := fun wx hb => node_yes (h.below hb) hi
 have z1 : (n.op == 1) = true := by simp [hop]
 clear h hw hi hop
 go_enter Tryz.func48, Tryz.ntmps48
 go_wp2_with fail
 refine Calls.mono (HND.out _ (by go_grown)) ?_
 rintro e w1 ⟨rfl, hb⟩
 have hB : Below w.heap.size w w1 := Below.trans (by go_grown) (hb.mono (by simp))
 have r0 : w1.cell? ⟨w.heap.size, 0, none⟩ = some (.int .i64 0) := by rw [hb.cell (p := ⟨w.heap.size, 0, none⟩) (by simp)]; simp
 have r1 : w1.cell? ⟨w.heap.size, 1, none⟩ = some (.int .u64 0) := by rw [hb.cell (p := ⟨w.heap.size, 1, none⟩) (by simp)]; simp
 have r2 : w1.cell? ⟨w.heap.size, 2, none⟩ = some (.int .u64 0) := by rw [hb.cell (p := ⟨w.heap.size, 2, none⟩) (by simp)]; simp
 have rf : ∀ j, w1.frozen? ⟨w.heap.size, j, none⟩ = false := fun j => by rw [hb.frozen (p := ⟨w.heap.size, j, none⟩) (by simp)]; simp
 have hs1 : w.heap.size < w1.heap.size := by have := hb.size; simp at this; omega
 clear hb
 go_wp2_with fail
 refine bodyPost_ret (v := .tuple #[.agg #[.int .i64 n.w, .int .u64 n.lo, .int .u64 n.hi], .int .i64 0]) (by simp [results, Tryz.results48, go_sem, r0, r1, r2, hs1]) rfl ?_
 exact ⟨rfl, by go_grown⟩
open Go.RowKit
structure LS (w0 : World) (R st : Nat) (c0 c1 : List Value) (T : TypeId) (g : Nat → Nat) (L : Nat → Bool) (x : World) : Prop where
 sz : w0.heap.size ≤ x.heap.size
 os : x.os = w0.os
 tape : x.tape = w0.tape
 output : x.output = w0.output
 kp : ∀ k, k < w0.heap.size → k ≠ R → x.heap[k]? = w0.heap[k]?
 rb : x.heap[R]? = some (.cells (if L st = true then c1 else c0).toArray T)
section
variable {w0 x y : World} {R st i : Nat} {c0 c1 : List Value} {T : TypeId} {g : Nat → Nat} {L : Nat → Bool}
theorem LS.start (h : w0.heap[R]? = some (.cells c0.toArray T)) : LS w0 R st c0 c1 T g (fun _ => false) w0.drew := ⟨Nat.le_refl _, rfl, rfl, rfl, fun _ _ _ => rfl, h⟩
theorem LS.go (h : LS w0 R st c0 c1 T g L x) (hi : (i != st) = true) : LS w0 R st c0 c1 T g (updB L i) x := by
 have u := updB_ne (L := L) (i := i) (k := st) (by simp at hi; omega)
 exact ⟨h.sz, h.os, h.tape, h.output, h.kp, by rw [u]; exact h.rb⟩
theorem LS.on (h : LS w0 R st c0 c1 T g L x) (hb : Below x.heap.size x y) (hi : (i != st) = true) : LS w0 R st c0 c1 T g (updB L i) y := by
 have u := updB_ne (L := L) (i := i) (k := st) (by simp at hi; omega)
 have hR := (Array.getElem?_eq_some_iff.1 h.rb).1
 exact ⟨Nat.le_trans h.sz hb.size, hb.os.trans h.os, hb.tape.trans h.tape, hb.output.trans h.output, fun k hk hn => (hb.block k (Nat.lt_of_lt_of_le hk h.sz)).trans (h.kp k hk hn), by rw [u, hb.block R hR]; exact h.rb⟩
theorem LS.below (h : LS w0 R st c0 c1 T g L x) {B : Nat} (hB : B ≤ R) (hB2 : B ≤ w0.heap.size) : Below B w0 x := ⟨h.os, h.tape, h.output, h.sz, fun k hk => h.kp k (by omega) (by omega)⟩
theorem LS.st3 {a b c a' b' c' : Value} (h : LS w0 R st [a', b', c'] [a, b, c] T g L x) (hL : L st = false) : LS w0 R st [a', b', c'] [a, b, c] T g (updB L st) (((x.setCell ⟨R, 0, none⟩ a).setCell ⟨R, 1, none⟩ b).setCell ⟨R, 2, none⟩ c) := by
 have hr := h.rb
 rw [hL] at hr
 refine ⟨by simp only [World.size_setCell]; exact h.sz, h.os, h.tape, h.output, fun k hk hn => ?_, ?_⟩
 ·rw [heap_setCell_other _ _ _ _ (by exact hn), heap_setCell_other _ _ _ _ (by exact hn), heap_setCell_other _ _ _ _ (by exact hn)]; exact h.kp k hk hn
 ·rw [updB_eq]
  have h1 := heap_setCell_same x R 0 _ _ a hr
  have h2 := heap_setCell_same _ R 1 _ _ b h1
  have h3 := heap_setCell_same _ R 2 _ _ c h2
  exact h3
end
theorem fit_yes {w : World} {b : Nat} {M : List (Int × Bt)} {id s : Int} {v : Bt} (h : Bm w b M) (hk : w64 id) (hv : getM M id = some v) (hB : Bk v) :
  Rt 35 #[.map (some b), .int .i64 id, .int .i64 s] w (.tuple #[.agg #[.int .i64 v.w, .int .u64 v.lo, .int .u64 v.hi], .bool (fits M id s)]) := by
 obtain ⟨r, hr⟩ : ∃ r, r = rgt v.w v.lo v.hi := ⟨_, rfl⟩
 have hlk : (Instr.lookup 77 (.map (some b)) (.int .i64 id) true).run Tryz.prog (w.alloc (.cells #[.int .i64 0, .int .u64 0, .int .u64 0] 34)) = .ok (.tuple #[.agg #[.int .i64 v.w, .int .u64 v.lo, .int .u64 v.hi], .bool true]) (w.alloc (.cells #[.int .i64 0, .int .u64 0, .int .u64 0] 34)) := by
  have h1 := (h.kept (heap_alloc_old w (.cells #[.int .i64 0, .int .u64 0, .int .u64 0] 34) h.mp.lt)).look hk
  rw [hv] at h1
  exact h1
 have HE : Hid (fits M id s = (r && decide (v.w = s))) := by unfold Hid fits; rw [hv, hr]; rfl
 have HR : Hid (∀ wx, Rt 60 #[.agg #[.int .i64 v.w, .int .u64 v.lo, .int .u64 v.hi]] wx (.bool r)) := fun wx => by rw [hr]; exact right_all hB.l0 hB.l1 hB.h0 hB.h1 wx
 obtain ⟨F, hF⟩ : ∃ F, F = fits M id s := ⟨_, rfl⟩
 rw [← hF] at HE ⊢
 clear h hk hv hB hr hF
 have prep : ∃ wU, wU = (w.alloc (.cells #[.int .i64 0, .int .u64 0, .int .u64 0] 34)).alloc (.cells #[.int .i64 v.w, .int .u64 v.lo, .int .u64 v.hi] 34) ∧ Below w.heap.size w wU ∧ wU.heap.size = w.heap.size + 2 ∧ wU.heap[w.heap.size]? = some (.cells #[.int .i64 0, .int .u64 0, .int .u64 0] 34) ∧ wU.heap[w.heap.size + 1]? = some (.cells #[.int .i64 v.w, .int .u64 v.lo, .int .u64 v.hi] 34) := by
  refine ⟨_, rfl, by go_grown, by simp, (heap_alloc_old _ _ (by simp)).trans (heap_alloc_new w _), ?_⟩
  have h1 := heap_alloc_new (w.alloc (.cells #[.int .i64 0, .int .u64 0, .int .u64 0] 34)) (.cells #[.int .i64 v.w, .int .u64 v.lo, .int .u64 v.hi] 34)
  rw [size_alloc'] at h1
  exact h1
 obtain ⟨wU, hwU, hbU, hsU, hrU, hvU⟩ := prep
 have HRB : Hid (wU.heap[w.heap.size]? = some (.cells [.int .i64 0, .int .u64 0, .int .u64 0].toArray 34)) := hrU
 have HV : Hid (wU.heap[w.heap.size + 1]? = some (.cells #[.int .i64 v.w, .int .u64 v.lo, .int .u64 v.hi] 34)) := hvU
 have HWU : Hid _ := hwU
 have hv1 : w.heap.size + 1 < wU.heap.size := by omega
 have hv2 : w.heap.size < wU.heap.size := by omega
 clear hrU hvU hwU hsU
 cases r
 ·have hF : F = false := by rw [HE.out]; rfl
  subst hF
  go_enter Tryz.func35, Tryz.ntmps35
  go_wp2_with fail
  rw [← HWU.out]
  refine wp_named fun a0 ha0 => ?_
  have o2 := old_at ha0 (t := 2) rfl
  have o6 := old_at ha0 (t := 6) rfl
  have o8 := old_at ha0 (t := 8) rfl
  have o9 := old_at ha0 (t := 9) rfl
  refine wp_region_lin (S := LS wU w.heap.size 12 [.int .i64 0, .int .u64 0, .int .u64 0] [.int .i64 v.w, .int .u64 v.lo, .int .u64 v.hi] 34) [] (fun _ => 0) (by kernel_rfl) (by kernel_rfl) (by rw [← ha0]; kernel_rfl) (LS.start HRB.out) ?_
  apply LinAll.cons0
  ·intro g L a x hLi haft hS hK; have t8 := (hK.old 8 (by kernel_rfl)).trans o8; (try dsimp only at t8); refine go_in (wanted_all rfl) ?_; intro K hk; have hv := (hS.kp (w.heap.size + 1) hv1 (by omega)).trans HV.out; have q0 : x.cell? ⟨w.heap.size + 1, 0, none⟩ = some (.int .i64 v.w) := cell_of hv 0 rfl; have q1 : x.cell? ⟨w.heap.size + 1, 1, none⟩ = some (.int .u64 v.lo) := cell_of hv 1 rfl; have q2 : x.cell? ⟨w.heap.size + 1, 2, none⟩ = some (.int .u64 v.hi) := cell_of hv 2 rfl; clear hv; clear haft hK hLi; go_simp; exact hk.out g x (fun _ _ => rfl) (hS.go rfl)
  apply LinAll.cons0
  ·intro g L a x hLi haft hS hK; have t9 := (hK.old 9 (by kernel_rfl)).trans o9; (try dsimp only at t9); refine go_in (wanted_all rfl) ?_; intro K hk; clear haft hK hLi; go_simp; exact hk.out g x (fun _ _ => rfl) (hS.go rfl)
  apply LinAll.cons0
  ·intro g L a x hLi haft hS hK; have t17 := hK.nw haft 1 0 17 rfl (by kernel_rfl); (try dsimp only at t17); refine go_in (wanted_all rfl) ?_; intro K hk; clear haft hK hLi; go_simp; exact hk.out g x (fun _ _ => rfl) (hS.go rfl)
  apply LinAll.cons0
  ·intro g L a x hLi haft hS hK; have t8 := (hK.old 8 (by kernel_rfl)).trans o8; have tg := hK.nw haft 2 0 18 rfl (by kernel_rfl); (try dsimp only at t8); refine go_in (wanted_at rfl rfl rfl tg rfl) ?_; intro K hk; have hv := (hS.kp (w.heap.size + 1) hv1 (by omega)).trans HV.out; have q0 : x.cell? ⟨w.heap.size + 1, 0, none⟩ = some (.int .i64 v.w) := cell_of hv 0 rfl; have q1 : x.cell? ⟨w.heap.size + 1, 1, none⟩ = some (.int .u64 v.lo) := cell_of hv 1 rfl; have q2 : x.cell? ⟨w.heap.size + 1, 2, none⟩ = some (.int .u64 v.hi) := cell_of hv 2 rfl; clear hv; clear haft hK tg hLi; go_simp; exact hk.out g x (fun _ _ => rfl) (hS.go rfl)
  apply LinAll.cons0
  ·intro g L a x hLi haft hS hK; have t19 := hK.nw haft 3 0 19 rfl (by kernel_rfl); have tg := hK.nw haft 2 1 18 rfl (by kernel_rfl); (try dsimp only at t19); refine go_in (wanted_at rfl rfl rfl tg rfl) ?_; intro K hk; clear haft hK tg hLi; go_simp; refine Calls.mono (HR.out _) ?_; rintro e y ⟨rfl, hb⟩; exact hk.out g y (fun _ _ => rfl) (hS.on hb rfl)
  apply LinAll.cons0
  ·intro g L a x hLi haft hS hK; have t18 := hK.nw haft 2 2 18 rfl (by kernel_rfl); have t20 := hK.nw haft 4 0 20 rfl (by kernel_rfl); (try dsimp only at t18 t20); refine go_in (wanted_all rfl) ?_; intro K hk; clear haft hK hLi; go_simp; exact hk.out g x (fun _ _ => rfl) (hS.go rfl)
  apply LinAll.cons0
  ·intro g L a x hLi haft hS hK; have t21 := hK.nw haft 5 0 21 rfl (by kernel_rfl); (try dsimp only at t21); refine go_in (wanted_all rfl) ?_; intro K hk; clear haft hK hLi; go_simp; exact hk.out g x (fun _ _ => rfl) (hS.go rfl)
  refine LinAll.cons0 (v := fun _ => undef) ?_ ?_
  ·intro g L a x hLi haft hS hK; have t8 := (hK.old 8 (by kernel_rfl)).trans o8; have tg := hK.nw haft 6 0 22 rfl (by kernel_rfl); (try dsimp only at t8); exact go_out (wanted_at rfl rfl rfl tg rfl) ⟨rfl, hS.go rfl⟩
  refine LinAll.cons0 (v := fun _ => undef) ?_ ?_
  ·intro g L a x hLi haft hS hK; have t23 := hK.nw haft 7 0 23 rfl (by kernel_rfl); have tg := hK.nw haft 6 1 22 rfl (by kernel_rfl); (try dsimp only at t23); exact go_out (wanted_at rfl rfl rfl tg rfl) ⟨rfl, hS.go rfl⟩
  refine LinAll.cons0 (v := fun _ => undef) ?_ ?_
  ·intro g L a x hLi haft hS hK; have t2 := (hK.old 2 (by kernel_rfl)).trans o2; have tg := hK.nw haft 6 2 22 rfl (by kernel_rfl); (try dsimp only at t2); exact go_out (wanted_at rfl rfl rfl tg rfl) ⟨rfl, hS.go rfl⟩
  refine LinAll.cons0 (v := fun _ => undef) ?_ ?_
  ·intro g L a x hLi haft hS hK; have t24 := hK.nw haft 8 1 24 rfl (by kernel_rfl); have t25 := hK.nw haft 9 0 25 rfl (by kernel_rfl); have tg := hK.nw haft 6 3 22 rfl (by kernel_rfl); (try dsimp only at t24 t25); exact go_out (wanted_at rfl rfl rfl tg rfl) ⟨rfl, hS.go rfl⟩
  apply LinAll.cons0
  ·intro g L a x hLi haft hS hK; have t22 := hK.nw haft 6 4 22 rfl (by kernel_rfl); have t26 := hK.nw haft 10 0 26 rfl (by kernel_rfl); (try dsimp only at t22 t26); refine go_in (wanted_all rfl) ?_; intro K hk; clear haft hK hLi; go_simp; exact hk.out g x (fun _ _ => rfl) (hS.go rfl)
  refine LinAll.cons0 (v := fun _ => undef) ?_ ?_
  ·intro g L a x hLi haft hS hK; have t6 := (hK.old 6 (by kernel_rfl)).trans o6; have t16 := hK.nw haft 0 11 16 rfl (by kernel_rfl); (try dsimp only at t6 t16); refine go_in (wanted_all rfl) ?_; intro K hk; have hr0 := hS.rb; rw [hLi] at hr0; have q0 : x.cell? ⟨w.heap.size, 0, none⟩ = some (.int .i64 0) := cell_of hr0 0 rfl; have q1 : x.cell? ⟨w.heap.size, 1, none⟩ = some (.int .u64 0) := cell_of hr0 1 rfl; have q2 : x.cell? ⟨w.heap.size, 2, none⟩ = some (.int .u64 0) := cell_of hr0 2 rfl; have qf : ∀ j, x.frozen? ⟨w.heap.size, j, none⟩ = false := (fun j => by simp [World.frozen?, hr0]); have hst := hS.st3 hLi; clear hr0; clear haft hK; go_simp; exact hk.out g _ (fun _ _ => rfl) hst
  apply LinAll.cons0
  ·intro g L a x hLi haft hS hK; have t27 := hK.nw haft 11 1 27 rfl (by kernel_rfl); (try dsimp only at t27); refine go_in (wanted_all rfl) ?_; intro K hk; clear haft hK hLi; go_simp; exact hk.out g x (fun _ _ => rfl) (hS.go rfl)
  refine LinAll.nil fun g x hS => ?_
  subst ha0
  simp only [Act.put, List.setIfInBounds_toArray, List.set_cons_zero, List.set_cons_succ]
  clear o2 o6 o8 o9
  have r0 : x.cell? ⟨w.heap.size, 0, none⟩ = some (.int .i64 v.w) := cell_of hS.rb 0 rfl
  have r1 : x.cell? ⟨w.heap.size, 1, none⟩ = some (.int .u64 v.lo) := cell_of hS.rb 1 rfl
  have r2 : x.cell? ⟨w.heap.size, 2, none⟩ = some (.int .u64 v.hi) := cell_of hS.rb 2 rfl
  have hB : Below w.heap.size w x := hbU.trans (hS.below (Nat.le_refl _) (by omega))
  clear hS
  go_wp2_with fail
  refine bodyPost_ret (v := .tuple #[.agg #[.int .i64 v.w, .int .u64 v.lo, .int .u64 v.hi], .bool false]) (by simp [results, Tryz.results35, go_sem, r0, r1, r2]) rfl ?_
  exact ⟨rfl, hB⟩
 ·by_cases hw : v.w = s
  ·have hF : F = true := by rw [HE.out]; simp [hw]
   subst hF
   have zw : (v.w == s) = true := by simp [hw]
   clear hw
   go_enter Tryz.func35, Tryz.ntmps35
   go_wp2_with fail
   rw [← HWU.out]
   refine wp_named fun a0 ha0 => ?_
   have o2 := old_at ha0 (t := 2) rfl
   have o6 := old_at ha0 (t := 6) rfl
   have o8 := old_at ha0 (t := 8) rfl
   have o9 := old_at ha0 (t := 9) rfl
   refine wp_region_lin (S := LS wU w.heap.size 12 [.int .i64 0, .int .u64 0, .int .u64 0] [.int .i64 v.w, .int .u64 v.lo, .int .u64 v.hi] 34) [] (fun _ => 0) (by kernel_rfl) (by kernel_rfl) (by rw [← ha0]; kernel_rfl) (LS.start HRB.out) ?_
   apply LinAll.cons0
   ·intro g L a x hLi haft hS hK; have t8 := (hK.old 8 (by kernel_rfl)).trans o8; (try dsimp only at t8); refine go_in (wanted_all rfl) ?_; intro K hk; have hv := (hS.kp (w.heap.size + 1) hv1 (by omega)).trans HV.out; have q0 : x.cell? ⟨w.heap.size + 1, 0, none⟩ = some (.int .i64 v.w) := cell_of hv 0 rfl; have q1 : x.cell? ⟨w.heap.size + 1, 1, none⟩ = some (.int .u64 v.lo) := cell_of hv 1 rfl; have q2 : x.cell? ⟨w.heap.size + 1, 2, none⟩ = some (.int .u64 v.hi) := cell_of hv 2 rfl; clear hv; clear haft hK hLi; go_simp; exact hk.out g x (fun _ _ => rfl) (hS.go rfl)
   apply LinAll.cons0
   ·intro g L a x hLi haft hS hK; have t9 := (hK.old 9 (by kernel_rfl)).trans o9; (try dsimp only at t9); refine go_in (wanted_all rfl) ?_; intro K hk; clear haft hK hLi; go_simp; exact hk.out g x (fun _ _ => rfl) (hS.go rfl)
   apply LinAll.cons0
   ·intro g L a x hLi haft hS hK; have t17 := hK.nw haft 1 0 17 rfl (by kernel_rfl); (try dsimp only at t17); refine go_in (wanted_all rfl) ?_; intro K hk; clear haft hK hLi; go_simp; exact hk.out g x (fun _ _ => rfl) (hS.go rfl)
   apply LinAll.cons0
   ·intro g L a x hLi haft hS hK; have t8 := (hK.old 8 (by kernel_rfl)).trans o8; have tg := hK.nw haft 2 0 18 rfl (by kernel_rfl); (try dsimp only at t8); refine go_in (wanted_at rfl rfl rfl tg rfl) ?_; intro K hk; have hv := (hS.kp (w.heap.size + 1) hv1 (by omega)).trans HV.out; have q0 : x.cell? ⟨w.heap.size + 1, 0, none⟩ = some (.int .i64 v.w) := cell_of hv 0 rfl; have q1 : x.cell? ⟨w.heap.size + 1, 1, none⟩ = some (.int .u64 v.lo) := cell_of hv 1 rfl; have q2 : x.cell? ⟨w.heap.size + 1, 2, none⟩ = some (.int .u64 v.hi) := cell_of hv 2 rfl; clear hv; clear haft hK tg hLi; go_simp; exact hk.out g x (fun _ _ => rfl) (hS.go rfl)
   apply LinAll.cons0
   ·intro g L a x hLi haft hS hK; have t19 := hK.nw haft 3 0 19 rfl (by kernel_rfl); have tg := hK.nw haft 2 1 18 rfl (by kernel_rfl); (try dsimp only at t19); refine go_in (wanted_at rfl rfl rfl tg rfl) ?_; intro K hk; clear haft hK tg hLi; go_simp; refine Calls.mono (HR.out _) ?_; rintro e y ⟨rfl, hb⟩; exact hk.out g y (fun _ _ => rfl) (hS.on hb rfl)
   apply LinAll.cons0
   ·intro g L a x hLi haft hS hK; have t18 := hK.nw haft 2 2 18 rfl (by kernel_rfl); have t20 := hK.nw haft 4 0 20 rfl (by kernel_rfl); (try dsimp only at t18 t20); refine go_in (wanted_all rfl) ?_; intro K hk; clear haft hK hLi; go_simp; exact hk.out g x (fun _ _ => rfl) (hS.go rfl)
   apply LinAll.cons0
   ·intro g L a x hLi haft hS hK; have t21 := hK.nw haft 5 0 21 rfl (by kernel_rfl); (try dsimp only at t21); refine go_in (wanted_all rfl) ?_; intro K hk; clear haft hK hLi; go_simp; exact hk.out g x (fun _ _ => rfl) (hS.go rfl)
   apply LinAll.cons0
   ·intro g L a x hLi haft hS hK; have t8 := (hK.old 8 (by kernel_rfl)).trans o8; have tg := hK.nw haft 6 0 22 rfl (by kernel_rfl); (try dsimp only at t8); refine go_in (wanted_at rfl rfl rfl tg rfl) ?_; intro K hk; clear haft hK tg hLi; go_simp; exact hk.out g x (fun _ _ => rfl) (hS.go rfl)
   apply LinAll.cons0
   ·intro g L a x hLi haft hS hK; have t23 := hK.nw haft 7 0 23 rfl (by kernel_rfl); have tg := hK.nw haft 6 1 22 rfl (by kernel_rfl); (try dsimp only at t23); refine go_in (wanted_at rfl rfl rfl tg rfl) ?_; intro K hk; have hv := (hS.kp (w.heap.size + 1) hv1 (by omega)).trans HV.out; have q0 : x.cell? ⟨w.heap.size + 1, 0, none⟩ = some (.int .i64 v.w) := cell_of hv 0 rfl; have q1 : x.cell? ⟨w.heap.size + 1, 1, none⟩ = some (.int .u64 v.lo) := cell_of hv 1 rfl; have q2 : x.cell? ⟨w.heap.size + 1, 2, none⟩ = some (.int .u64 v.hi) := cell_of hv 2 rfl; clear hv; clear haft hK tg hLi; go_simp; exact hk.out g x (fun _ _ => rfl) (hS.go rfl)
   apply LinAll.cons0
   ·intro g L a x hLi haft hS hK; have t2 := (hK.old 2 (by kernel_rfl)).trans o2; have tg := hK.nw haft 6 2 22 rfl (by kernel_rfl); (try dsimp only at t2); refine go_in (wanted_at rfl rfl rfl tg rfl) ?_; intro K hk; clear haft hK tg hLi; go_simp; exact hk.out g x (fun _ _ => rfl) (hS.go rfl)
   apply LinAll.cons0
   ·intro g L a x hLi haft hS hK; have t24 := hK.nw haft 8 1 24 rfl (by kernel_rfl); have t25 := hK.nw haft 9 0 25 rfl (by kernel_rfl); have tg := hK.nw haft 6 3 22 rfl (by kernel_rfl); (try dsimp only at t24 t25); refine go_in (wanted_at rfl rfl rfl tg rfl) ?_; intro K hk; clear haft hK tg hLi; go_simp; exact hk.out g x (fun _ _ => rfl) (hS.go rfl)
   apply LinAll.cons0
   ·intro g L a x hLi haft hS hK; have t22 := hK.nw haft 6 4 22 rfl (by kernel_rfl); have t26 := hK.nw haft 10 0 26 rfl (by kernel_rfl); (try dsimp only at t22 t26); refine go_in (wanted_all rfl) ?_; intro K hk; clear haft hK hLi; go_simp; exact hk.out g x (fun _ _ => rfl) (hS.go rfl)
   refine LinAll.cons0 (v := fun _ => undef) ?_ ?_
   ·intro g L a x hLi haft hS hK; have t6 := (hK.old 6 (by kernel_rfl)).trans o6; have t16 := hK.nw haft 0 11 16 rfl (by kernel_rfl); (try dsimp only at t6 t16); refine go_in (wanted_all rfl) ?_; intro K hk; have hr0 := hS.rb; rw [hLi] at hr0; have q0 : x.cell? ⟨w.heap.size, 0, none⟩ = some (.int .i64 0) := cell_of hr0 0 rfl; have q1 : x.cell? ⟨w.heap.size, 1, none⟩ = some (.int .u64 0) := cell_of hr0 1 rfl; have q2 : x.cell? ⟨w.heap.size, 2, none⟩ = some (.int .u64 0) := cell_of hr0 2 rfl; have qf : ∀ j, x.frozen? ⟨w.heap.size, j, none⟩ = false := (fun j => by simp [World.frozen?, hr0]); have hst := hS.st3 hLi; clear hr0; clear haft hK; go_simp; exact hk.out g _ (fun _ _ => rfl) hst
   apply LinAll.cons0
   ·intro g L a x hLi haft hS hK; have t27 := hK.nw haft 11 1 27 rfl (by kernel_rfl); (try dsimp only at t27); refine go_in (wanted_all rfl) ?_; intro K hk; clear haft hK hLi; go_simp; exact hk.out g x (fun _ _ => rfl) (hS.go rfl)
   refine LinAll.nil fun g x hS => ?_
   subst ha0
   simp only [Act.put, List.setIfInBounds_toArray, List.set_cons_zero, List.set_cons_succ]
   clear o2 o6 o8 o9
   have r0 : x.cell? ⟨w.heap.size, 0, none⟩ = some (.int .i64 v.w) := cell_of hS.rb 0 rfl
   have r1 : x.cell? ⟨w.heap.size, 1, none⟩ = some (.int .u64 v.lo) := cell_of hS.rb 1 rfl
   have r2 : x.cell? ⟨w.heap.size, 2, none⟩ = some (.int .u64 v.hi) := cell_of hS.rb 2 rfl
   have hB : Below w.heap.size w x := hbU.trans (hS.below (Nat.le_refl _) (by omega))
   clear hS
   go_wp2_with fail
   refine bodyPost_ret (v := .tuple #[.agg #[.int .i64 v.w, .int .u64 v.lo, .int .u64 v.hi], .bool true]) (by simp [results, Tryz.results35, go_sem, r0, r1, r2]) rfl ?_
   exact ⟨rfl, hB⟩
  ·have hF : F = false := by rw [HE.out]; simp [hw]
   subst hF
   have zw : (v.w == s) = false := by simp [hw]
   clear hw
   go_enter Tryz.func35, Tryz.ntmps35
   go_wp2_with fail
   rw [← HWU.out]
   refine wp_named fun a0 ha0 => ?_
   have o2 := old_at ha0 (t := 2) rfl
   have o6 := old_at ha0 (t := 6) rfl
   have o8 := old_at ha0 (t := 8) rfl
   have o9 := old_at ha0 (t := 9) rfl
   refine wp_region_lin (S := LS wU w.heap.size 12 [.int .i64 0, .int .u64 0, .int .u64 0] [.int .i64 v.w, .int .u64 v.lo, .int .u64 v.hi] 34) [] (fun _ => 0) (by kernel_rfl) (by kernel_rfl) (by rw [← ha0]; kernel_rfl) (LS.start HRB.out) ?_
   apply LinAll.cons0
   ·intro g L a x hLi haft hS hK; have t8 := (hK.old 8 (by kernel_rfl)).trans o8; (try dsimp only at t8); refine go_in (wanted_all rfl) ?_; intro K hk; have hv := (hS.kp (w.heap.size + 1) hv1 (by omega)).trans HV.out; have q0 : x.cell? ⟨w.heap.size + 1, 0, none⟩ = some (.int .i64 v.w) := cell_of hv 0 rfl; have q1 : x.cell? ⟨w.heap.size + 1, 1, none⟩ = some (.int .u64 v.lo) := cell_of hv 1 rfl; have q2 : x.cell? ⟨w.heap.size + 1, 2, none⟩ = some (.int .u64 v.hi) := cell_of hv 2 rfl; clear hv; clear haft hK hLi; go_simp; exact hk.out g x (fun _ _ => rfl) (hS.go rfl)
   apply LinAll.cons0
   ·intro g L a x hLi haft hS hK; have t9 := (hK.old 9 (by kernel_rfl)).trans o9; (try dsimp only at t9); refine go_in (wanted_all rfl) ?_; intro K hk; clear haft hK hLi; go_simp; exact hk.out g x (fun _ _ => rfl) (hS.go rfl)
   apply LinAll.cons0
   ·intro g L a x hLi haft hS hK; have t17 := hK.nw haft 1 0 17 rfl (by kernel_rfl); (try dsimp only at t17); refine go_in (wanted_all rfl) ?_; intro K hk; clear haft hK hLi; go_simp; exact hk.out g x (fun _ _ => rfl) (hS.go rfl)
   apply LinAll.cons0
   ·intro g L a x hLi haft hS hK; have t8 := (hK.old 8 (by kernel_rfl)).trans o8; have tg := hK.nw haft 2 0 18 rfl (by kernel_rfl); (try dsimp only at t8); refine go_in (wanted_at rfl rfl rfl tg rfl) ?_; intro K hk; have hv := (hS.kp (w.heap.size + 1) hv1 (by omega)).trans HV.out; have q0 : x.cell? ⟨w.heap.size + 1, 0, none⟩ = some (.int .i64 v.w) := cell_of hv 0 rfl; have q1 : x.cell? ⟨w.heap.size + 1, 1, none⟩ = some (.int .u64 v.lo) := cell_of hv 1 rfl; have q2 : x.cell? ⟨w.heap.size + 1, 2, none⟩ = some (.int .u64 v.hi) := cell_of hv 2 rfl; clear hv; clear haft hK tg hLi; go_simp; exact hk.out g x (fun _ _ => rfl) (hS.go rfl)
   apply LinAll.cons0
   ·intro g L a x hLi haft hS hK; have t19 := hK.nw haft 3 0 19 rfl (by kernel_rfl); have tg := hK.nw haft 2 1 18 rfl (by kernel_rfl); (try dsimp only at t19); refine go_in (wanted_at rfl rfl rfl tg rfl) ?_; intro K hk; clear haft hK tg hLi; go_simp; refine Calls.mono (HR.out _) ?_; rintro e y ⟨rfl, hb⟩; exact hk.out g y (fun _ _ => rfl) (hS.on hb rfl)
   apply LinAll.cons0
   ·intro g L a x hLi haft hS hK; have t18 := hK.nw haft 2 2 18 rfl (by kernel_rfl); have t20 := hK.nw haft 4 0 20 rfl (by kernel_rfl); (try dsimp only at t18 t20); refine go_in (wanted_all rfl) ?_; intro K hk; clear haft hK hLi; go_simp; exact hk.out g x (fun _ _ => rfl) (hS.go rfl)
   apply LinAll.cons0
   ·intro g L a x hLi haft hS hK; have t21 := hK.nw haft 5 0 21 rfl (by kernel_rfl); (try dsimp only at t21); refine go_in (wanted_all rfl) ?_; intro K hk; clear haft hK hLi; go_simp; exact hk.out g x (fun _ _ => rfl) (hS.go rfl)
   apply LinAll.cons0
   ·intro g L a x hLi haft hS hK; have t8 := (hK.old 8 (by kernel_rfl)).trans o8; have tg := hK.nw haft 6 0 22 rfl (by kernel_rfl); (try dsimp only at t8); refine go_in (wanted_at rfl rfl rfl tg rfl) ?_; intro K hk; clear haft hK tg hLi; go_simp; exact hk.out g x (fun _ _ => rfl) (hS.go rfl)
   apply LinAll.cons0
   ·intro g L a x hLi haft hS hK; have t23 := hK.nw haft 7 0 23 rfl (by kernel_rfl); have tg := hK.nw haft 6 1 22 rfl (by kernel_rfl); (try dsimp only at t23); refine go_in (wanted_at rfl rfl rfl tg rfl) ?_; intro K hk; have hv := (hS.kp (w.heap.size + 1) hv1 (by omega)).trans HV.out; have q0 : x.cell? ⟨w.heap.size + 1, 0, none⟩ = some (.int .i64 v.w) := cell_of hv 0 rfl; have q1 : x.cell? ⟨w.heap.size + 1, 1, none⟩ = some (.int .u64 v.lo) := cell_of hv 1 rfl; have q2 : x.cell? ⟨w.heap.size + 1, 2, none⟩ = some (.int .u64 v.hi) := cell_of hv 2 rfl; clear hv; clear haft hK tg hLi; go_simp; exact hk.out g x (fun _ _ => rfl) (hS.go rfl)
   apply LinAll.cons0
   ·intro g L a x hLi haft hS hK; have t2 := (hK.old 2 (by kernel_rfl)).trans o2; have tg := hK.nw haft 6 2 22 rfl (by kernel_rfl); (try dsimp only at t2); refine go_in (wanted_at rfl rfl rfl tg rfl) ?_; intro K hk; clear haft hK tg hLi; go_simp; exact hk.out g x (fun _ _ => rfl) (hS.go rfl)
   apply LinAll.cons0
   ·intro g L a x hLi haft hS hK; have t24 := hK.nw haft 8 1 24 rfl (by kernel_rfl); have t25 := hK.nw haft 9 0 25 rfl (by kernel_rfl); have tg := hK.nw haft 6 3 22 rfl (by kernel_rfl); (try dsimp only at t24 t25); refine go_in (wanted_at rfl rfl rfl tg rfl) ?_; intro K hk; clear haft hK tg hLi; go_simp; exact hk.out g x (fun _ _ => rfl) (hS.go rfl)
   apply LinAll.cons0
   ·intro g L a x hLi haft hS hK; have t22 := hK.nw haft 6 4 22 rfl (by kernel_rfl); have t26 := hK.nw haft 10 0 26 rfl (by kernel_rfl); (try dsimp only at t22 t26); refine go_in (wanted_all rfl) ?_; intro K hk; clear haft hK hLi; go_simp; exact hk.out g x (fun _ _ => rfl) (hS.go rfl)
   refine LinAll.cons0 (v := fun _ => undef) ?_ ?_
   ·intro g L a x hLi haft hS hK; have t6 := (hK.old 6 (by kernel_rfl)).trans o6; have t16 := hK.nw haft 0 11 16 rfl (by kernel_rfl); (try dsimp only at t6 t16); refine go_in (wanted_all rfl) ?_; intro K hk; have hr0 := hS.rb; rw [hLi] at hr0; have q0 : x.cell? ⟨w.heap.size, 0, none⟩ = some (.int .i64 0) := cell_of hr0 0 rfl; have q1 : x.cell? ⟨w.heap.size, 1, none⟩ = some (.int .u64 0) := cell_of hr0 1 rfl; have q2 : x.cell? ⟨w.heap.size, 2, none⟩ = some (.int .u64 0) := cell_of hr0 2 rfl; have qf : ∀ j, x.frozen? ⟨w.heap.size, j, none⟩ = false := (fun j => by simp [World.frozen?, hr0]); have hst := hS.st3 hLi; clear hr0; clear haft hK; go_simp; exact hk.out g _ (fun _ _ => rfl) hst
   apply LinAll.cons0
   ·intro g L a x hLi haft hS hK; have t27 := hK.nw haft 11 1 27 rfl (by kernel_rfl); (try dsimp only at t27); refine go_in (wanted_all rfl) ?_; intro K hk; clear haft hK hLi; go_simp; exact hk.out g x (fun _ _ => rfl) (hS.go rfl)
   refine LinAll.nil fun g x hS => ?_
   subst ha0
   simp only [Act.put, List.setIfInBounds_toArray, List.set_cons_zero, List.set_cons_succ]
   clear o2 o6 o8 o9
   have r0 : x.cell? ⟨w.heap.size, 0, none⟩ = some (.int .i64 v.w) := cell_of hS.rb 0 rfl
   have r1 : x.cell? ⟨w.heap.size, 1, none⟩ = some (.int .u64 v.lo) := cell_of hS.rb 1 rfl
   have r2 : x.cell? ⟨w.heap.size, 2, none⟩ = some (.int .u64 v.hi) := cell_of hS.rb 2 rfl
   have hB : Below w.heap.size w x := hbU.trans (hS.below (Nat.le_refl _) (by omega))
   clear hS
   go_wp2_with fail
   refine bodyPost_ret (v := .tuple #[.agg #[.int .i64 v.w, .int .u64 v.lo, .int .u64 v.hi], .bool false]) (by simp [results, Tryz.results35, go_sem, r0, r1, r2]) rfl ?_
   exact ⟨rfl, hB⟩
end Go.Proofs.YtejljdbkocnhlaaGreat
