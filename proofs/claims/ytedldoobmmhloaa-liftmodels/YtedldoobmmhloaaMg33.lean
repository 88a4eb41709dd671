import Derived.Test.YtedldoobmmhloaaK
import Derived.Test.YtedldoobmmhloaaMg26
import Derived.Test.YtedldoobmmhloaaE
import Derived.Test.YtedldoobmmhloaaN
import Derived.Test.YtedldoobmmhloaaO
import Derived.Test.YtedldoobmmhloaaO2
import Derived.Test.YtedldoobmmhloaaMg19
import Derived.Test.YtedldoobmmhloaaMg21
namespace Go.Proofs.Ytedldoobmmhloaa
set_option maxHeartbeats 12800000
set_option maxRecDepth 100000
open Go.RowKit
set_option linter.unusedSimpArgs false
set_option linter.unusedVariables false
def lowop (k W n m : Nat) : Nat :=
 match k with
 | 0 => n &&& m
 | 1 => n ||| m
 | 2 => n ^^^ m
 | 3 => 2 ^ W - 1 - (n &&& m)
 | 4 => 2 ^ W - 1 - (n ||| m)
 | 5 => 2 ^ W - 1 - (n ^^^ m)
 | 6 => (n + m) % 2 ^ W
 | 7 => (n + neg W m) % 2 ^ W
 | _ => n * m % 2 ^ W
theorem lowop_lt {k W n m : Nat} (hn : n < 2 ^ W) (hm : m < 2 ^ W) : lowop k W n m < 2 ^ W := by
 have := Nat.two_pow_pos W
 unfold lowop
 split
 ·exact Nat.lt_of_le_of_lt Nat.and_le_left hn
 ·exact Nat.or_lt_two_pow hn hm
 ·exact Nat.xor_lt_two_pow hn hm
 ·omega
 ·omega
 ·omega
 ·exact mod_lt_W _ _
 ·exact mod_lt_W _ _
 ·exact mod_lt_W _ _
def sh (k W n d : Nat) : Nat :=
 match k with
 | 0 => n * 2 ^ d % 2 ^ W
 | 1 => n / 2 ^ d
 | _ => if n.testBit (W - 1) then 2 ^ W - 1 - (2 ^ W - 1 - n) / 2 ^ d else n / 2 ^ d
theorem sh_lt {k W n d : Nat} (hn : n < 2 ^ W) : sh k W n d < 2 ^ W := by
 have := Nat.two_pow_pos W
 have h2 := Nat.lt_of_le_of_lt (Nat.div_le_self n (2 ^ d)) hn
 unfold sh
 split
 ·exact mod_lt_W _ _
 ·exact h2
 ·split
  ·exact turn_lt _ W
  ·exact h2
def far (k W n : Nat) : Nat := if k = 2 ∧ n.testBit (W - 1) = true then 2 ^ W - 1 else 0
def sg (b : Bool) : Int := if b then -1 else 1
theorem smod_lt {W n m : Nat} (hn : n < 2 ^ W) : smod W n m < 2 ^ W := by
 unfold smod; split
 ·exact mod_lt_W _ _
 ·exact wsign_lt (urem_lt (wsign_lt hn))
theorem sdiv_lt {W n m : Nat} (hn : n < 2 ^ W) : sdiv W n m < 2 ^ W := by
 unfold sdiv; split
 ·exact neg_lt _ _
 ·exact udiv_lt (wsign_lt hn)
theorem srem_lt {W n m : Nat} (hn : n < 2 ^ W) : srem W n m < 2 ^ W := wsign_lt (urem_lt (wsign_lt hn))
theorem word_is {b : Bt} (hk : Bk b) (h : 1 ≤ sof b) : ∃ W n : Nat, 1 ≤ W ∧ W ≤ 128 ∧ n < 2 ^ W ∧ b = ⟨(W : Int), LO n, HI n⟩ ∧ sof b = (W : Int) := by
 have hs : sof b = b.w ∧ rgt b.w b.lo b.hi = true := by
  unfold sof at h ⊢
  split at h
  ·rename_i hr; rw [if_pos hr]; exact ⟨rfl, hr⟩
  ·omega
 obtain ⟨hs, hr⟩ := hs
 rw [hs] at h
 unfold rgt at hr
 have h0 : ¬ b.w = 0 := by omega
 simp only [h0, if_false, Bool.and_eq_true, decide_eq_true_eq] at hr
 obtain ⟨⟨r1, r2⟩, r3⟩ := hr
 have a1 := hk.l0
 have a2 := hk.l1
 have a3 := hk.h0
 have a4 := hk.h1
 have e2 : ((2 : Int) ^ b.w.toNat) = ((2 ^ b.w.toNat : Nat) : Int) := by simp
 rw [e2] at r3
 refine ⟨b.w.toNat, (b.lo + 18446744073709551616 * b.hi).toNat, by omega, by omega, by omega, ?_, by omega⟩
 have e3 : ((b.w.toNat : Nat) : Int) = b.w := by omega
 have e4 : LO (b.lo + 18446744073709551616 * b.hi).toNat = b.lo := by unfold LO; omega
 have e5 : HI (b.lo + 18446744073709551616 * b.hi).toNat = b.hi := by unfold HI; omega
 rw [e3, e4, e5]
def Prg (f : Nat) (xs : Array Value) (r : Bt) : Prop := ∀ wx, Calls Try.prog f xs wx fun e w' => e = .returned (.tuple #[.agg #[.int .i64 r.w, .int .u64 r.lo, .int .u64 r.hi], .int .i64 0]) ∧ Below wx.heap.size wx w'
def Fit (f : Nat) (xs : Array Value) (s : Int) : Prop := ∃ r, Prg f xs r ∧ Bk r ∧ sof r = s
theorem fw {K R : Nat} {S : Int} (h1 : 1 ≤ K) (h2 : K ≤ 128) (hR : R < 2 ^ K) (hS : S = (K : Int)) : Bk ⟨S, LO R, HI R⟩ ∧ sof ⟨S, LO R, HI R⟩ = S := by
 subst hS
 have hp : (2 : Nat) ^ K ≤ 2 ^ 128 := Nat.pow_le_pow_right (by decide) h2
 have hr : R < 2 ^ 128 := Nat.lt_of_lt_of_le hR hp
 have a1 : 0 ≤ LO R := by unfold LO; omega
 have a2 : LO R < 18446744073709551616 := by unfold LO; omega
 have a3 : 0 ≤ HI R := by unfold HI; omega
 have a4 : HI R < 18446744073709551616 := by unfold HI; omega
 have e : LO R + 18446744073709551616 * HI R = (R : Int) := by unfold LO HI; omega
 have e2 : ((2 : Int) ^ ((K : Int)).toNat) = ((2 ^ K : Nat) : Int) := by simp
 refine ⟨⟨a1, a2, a3, a4⟩, ?_⟩
 have hg : rgt (K : Int) (LO R) (HI R) = true := by
  unfold rgt
  have h0 : ¬ (K : Int) = 0 := by omega
  simp only [h0, if_false, Bool.and_eq_true, decide_eq_true_eq]
  refine ⟨⟨by omega, by omega⟩, ?_⟩
  rw [e, e2]; omega
 unfold sof
 rw [if_pos hg]
theorem fb (c : Bool) : Bk ⟨0, LO (b01 c), HI (b01 c)⟩ ∧ sof ⟨0, LO (b01 c), HI (b01 c)⟩ = 0 := by
 cases c
 ·exact ⟨⟨by decide, by decide, by decide, by decide⟩, by decide⟩
 ·exact ⟨⟨by decide, by decide, by decide, by decide⟩, by decide⟩
def tws (op : Int) (W : Nat) : Int := if op ≤ 28 then W else if op ≤ 36 then 0 else 1
theorem tw1 {op : Int} {W : Nat} {r : Bt} (ho : op ≤ 28) (h : Bk r ∧ sof r = (W : Int)) : Bk r ∧ sof r = tws op W := ⟨h.1, h.2.trans (by unfold tws; rw [if_pos ho])⟩
theorem tw2 {op : Int} {W : Nat} {r : Bt} (h1 : 29 ≤ op) (h2 : op ≤ 36) (h : Bk r ∧ sof r = 0) : Bk r ∧ sof r = tws op W := ⟨h.1, h.2.trans (by unfold tws; rw [if_neg (by omega), if_pos h2])⟩
theorem two_fit {op : Int} {W N N' : Nat} (h1 : 1 ≤ W) (h2 : W ≤ 128) (hn : N < 2 ^ W) (hm : N' < 2 ^ W) (o1 : 12 ≤ op) (o2 : op ≤ 37) : Fit 76 #[.int .i64 op, .agg #[.int .i64 W, .int .u64 (LO (N)), .int .u64 (HI (N))], .agg #[.int .i64 W, .int .u64 (LO (N')), .int .u64 (HI (N'))]] (tws op W) := by
 have wa := Wd.mk' h1 h2 hn
 have wb := Wd.mk' h1 h2 hm
 by_cases ho : 12 ≤ op ∧ op ≤ 28
 ·obtain ⟨k, rfl⟩ : ∃ k : Nat, op = 12 + (k : Int) := ⟨(op - 12).toNat, by omega⟩
  by_cases hk5 : k ≤ 5
  ·refine ⟨⟨_, _, _⟩, fun wx => ?_, tw1 (by omega) (fw h1 h2 (lowop_lt (k := k) hn hm) rfl)⟩
   have hk6 : k = 0 ∨ k = 1 ∨ k = 2 ∨ k = 3 ∨ k = 4 ∨ k = 5 := by omega
   rcases hk6 with rfl | rfl | rfl | rfl | rfl | rfl
   ·exact two_and wa wb wx
   ·exact two_or wa wb wx
   ·exact two_xor wa wb wx
   ·exact two_nand wa wb wx
   ·exact two_nor wa wb wx
   ·exact two_xnor wa wb wx
  ·have hk6 : k = 6 ∨ k = 7 ∨ k = 8 ∨ k = 9 ∨ k = 10 ∨ k = 11 ∨ k = 12 ∨ k = 13 ∨ k = 14 ∨ k = 15 ∨ k = 16 := by omega
   rcases hk6 with rfl | rfl | rfl | rfl | rfl | rfl | rfl | rfl | rfl | rfl | rfl
   ·exact ⟨⟨_, _, _⟩, fun wx => two_add wa wb wx, tw1 (by omega) (fw h1 h2 (lowop_lt (k := 6) hn hm) rfl)⟩
   ·exact ⟨⟨_, _, _⟩, fun wx => two_sub wa wb wx, tw1 (by omega) (fw h1 h2 (lowop_lt (k := 7) hn hm) rfl)⟩
   ·exact ⟨⟨_, _, _⟩, fun wx => two_mul wa wb wx, tw1 (by omega) (fw h1 h2 (lowop_lt (k := 8) hn hm) rfl)⟩
   ·exact ⟨⟨_, _, _⟩, fun wx => two_udiv wa wb wx, tw1 (by omega) (fw h1 h2 (udiv_lt hn) rfl)⟩
   ·exact ⟨⟨_, _, _⟩, fun wx => two_urem wa wb wx, tw1 (by omega) (fw h1 h2 (urem_lt hn) rfl)⟩
   ·exact ⟨⟨_, _, _⟩, fun wx => two_signed (Or.inl ⟨rfl, rfl⟩) wa wb wx, tw1 (by omega) (fw h1 h2 (sdiv_lt hn) rfl)⟩
   ·exact ⟨⟨_, _, _⟩, fun wx => two_signed (Or.inr (Or.inl ⟨rfl, rfl⟩)) wa wb wx, tw1 (by omega) (fw h1 h2 (srem_lt hn) rfl)⟩
   ·exact ⟨⟨_, _, _⟩, fun wx => two_signed (Or.inr (Or.inr ⟨rfl, rfl⟩)) wa wb wx, tw1 (by omega) (fw h1 h2 (smod_lt hn) rfl)⟩
   ·exact ⟨⟨_, _, _⟩, fun wx => two_shl wa wb wx, tw1 (by omega) (fw h1 h2 (sh_lt (k := 0) (d := dist N' W) hn) rfl)⟩
   ·exact ⟨⟨_, _, _⟩, fun wx => two_lshr wa wb wx, tw1 (by omega) (fw h1 h2 (sh_lt (k := 1) (d := dist N' W) hn) rfl)⟩
   ·refine ⟨⟨_, _, _⟩, fun wx => ?_, tw1 (by omega) (fw h1 h2 (sh_lt (k := 2) (d := dist N' W) hn) rfl)⟩
    cases hs : N.testBit (W - 1)
    ·have e : sh 2 W N (dist N' W) = N / 2 ^ dist N' W := by simp [sh, hs]
     rw [e]; exact two_ashr0 wa wb hs wx
    ·have e : sh 2 W N (dist N' W) = 2 ^ W - 1 - (2 ^ W - 1 - N) / 2 ^ dist N' W := by simp [sh, hs]
     rw [e]; exact two_ashr1 wa wb hs wx
 ·by_cases hc : 29 ≤ op ∧ op ≤ 36
  ·obtain ⟨k, rfl⟩ : ∃ k : Nat, op = 29 + (k : Int) := ⟨(op - 29).toNat, by omega⟩
   exact ⟨⟨_, _, _⟩, fun wx => two_cmp rfl (by omega) wa wb wx, tw2 (by omega) (by omega) (fb _)⟩
  ·obtain rfl : op = 37 := by omega
   exact ⟨⟨_, _, _⟩, fun wx => two_comp rfl wa wb wx, (fw (K := 1) (by decide) (by decide) (b01_lt _) rfl).1, (fw (K := 1) (by decide) (by decide) (b01_lt _) rfl).2⟩
theorem one_fit10 {W N : Nat} (h1 : 1 ≤ W) (h2 : W ≤ 128) (hn : N < 2 ^ W) : Fit 64 #[.int .i64 10, .agg #[.int .i64 W, .int .u64 (LO (N)), .int .u64 (HI (N))]] W :=
 ⟨⟨_, _, _⟩, fun wx => one_not (Wd.mk' h1 h2 hn) wx, fw h1 h2 (by omega) rfl⟩
theorem one_fit11 {W N : Nat} (h1 : 1 ≤ W) (h2 : W ≤ 128) (hn : N < 2 ^ W) : Fit 64 #[.int .i64 11, .agg #[.int .i64 W, .int .u64 (LO (N)), .int .u64 (HI (N))]] W :=
 ⟨⟨_, _, _⟩, fun wx => one_neg (Wd.mk' h1 h2 hn) wx, fw h1 h2 (neg_lt _ _) rfl⟩
theorem concat_fit {W N V N' : Nat} (h1 : 1 ≤ W) (h2 : W ≤ 128) (hn : N < 2 ^ W) (k1 : 1 ≤ V) (k2 : V ≤ 128) (hm : N' < 2 ^ V) (hs : W + V ≤ 128) : Fit 66 #[.agg #[.int .i64 W, .int .u64 (LO (N)), .int .u64 (HI (N))], .agg #[.int .i64 V, .int .u64 (LO (N')), .int .u64 (HI (N'))]] ((W : Int) + V) :=
 ⟨⟨_, _, _⟩, fun wx => concat_any (Wd.mk' h1 h2 hn) (Wd.mk' k1 k2 hm) hs wx, fw (K := W + V) (by omega) hs (cat_lt hn hm) (by simp)⟩
theorem extract_fit {W N : Nat} {i j : Int} (h1 : 1 ≤ W) (h2 : W ≤ 128) (hn : N < 2 ^ W) (hp : i < W ∧ j ≤ i ∧ 0 ≤ j) : Fit 68 #[.agg #[.int .i64 W, .int .u64 (LO (N)), .int .u64 (HI (N))], .int .i64 i, .int .i64 j] (i - j + 1) := by
 obtain ⟨i', rfl⟩ : ∃ i' : Nat, i = i' := ⟨i.toNat, by omega⟩
 obtain ⟨j', rfl⟩ : ∃ j' : Nat, j = j' := ⟨j.toNat, by omega⟩
 exact ⟨⟨_, _, _⟩, fun wx => extract_any (Wd.mk' h1 h2 hn) rfl rfl (by omega) (by omega) wx, fw (K := i' - j' + 1) (by omega) (by omega) (Nat.mod_lt _ (Nat.two_pow_pos _)) (by omega)⟩
theorem extend_fit {W N : Nat} {i : Int} (c : Bool) (h1 : 1 ≤ W) (h2 : W ≤ 128) (hn : N < 2 ^ W) (hp : 0 ≤ i) (hq : i ≤ 128 - (W : Int)) : Fit 70 #[.agg #[.int .i64 W, .int .u64 (LO (N)), .int .u64 (HI (N))], .int .i64 i, .bool c] ((W : Int) + i) := by
 obtain ⟨k, rfl⟩ : ∃ k : Nat, i = k := ⟨i.toNat, by omega⟩
 by_cases hs : (c && N.testBit (W - 1)) = true
 ·obtain ⟨rfl, ht⟩ : c = true ∧ N.testBit (W - 1) = true := by simpa using hs
  exact ⟨⟨_, _, _⟩, fun wx => extend_sign (Wd.mk' h1 h2 hn) rfl (by omega) ht wx, fw (K := W + k) (by omega) (by omega) (wide_lt _ _ _) (by simp)⟩
 ·have hs' : (c && N.testBit (W - 1)) = false := by simpa using hs
  exact ⟨⟨_, _, _⟩, fun wx => extend_zero (b := c) (Wd.mk' h1 h2 hn) rfl (by omega) (by cases c; exact Or.inl rfl; exact Or.inr (by simpa using hs')) wx, fw (K := W + k) (by omega) (by omega) (Nat.lt_of_lt_of_le hn (Nat.pow_le_pow_right (by decide) (by omega))) (by simp)⟩
theorem rotate_fit {W N : Nat} {i : Int} (c : Bool) (h1 : 1 ≤ W) (h2 : W ≤ 128) (hn : N < 2 ^ W) (hp : 0 ≤ i) (hi : i < 9223372036854775808) : Fit 72 #[.agg #[.int .i64 W, .int .u64 (LO (N)), .int .u64 (HI (N))], .int .i64 i, .bool c] W := by
 obtain ⟨k, rfl⟩ : ∃ k : Nat, i = k := ⟨i.toNat, by omega⟩
 cases c
 ·exact ⟨⟨_, _, _⟩, fun wx => rotate_right (Wd.mk' h1 h2 hn) rfl (by omega) wx, fw h1 h2 (rot_lt hn) rfl⟩
 ·exact ⟨⟨_, _, _⟩, fun wx => rotate_left (Wd.mk' h1 h2 hn) rfl (by omega) wx, fw h1 h2 (rot_lt hn) rfl⟩
theorem repeat_fit {W N : Nat} {i : Int} (h1 : 1 ≤ W) (h2 : W ≤ 128) (hn : N < 2 ^ W) (hp : 1 ≤ i) (hq : W * i.toNat ≤ 128) : Fit 74 #[.agg #[.int .i64 W, .int .u64 (LO (N)), .int .u64 (HI (N))], .int .i64 i] ((W : Int) * i) := by
 obtain ⟨k, rfl⟩ : ∃ k : Nat, i = k := ⟨i.toNat, by omega⟩
 have hk : k ≤ 128 / W := by
  rw [Nat.le_div_iff_mul_le (by omega), Nat.mul_comm]
  simpa using hq
 have hwk : 1 ≤ W * k := Nat.mul_pos (by omega) (by omega)
 exact ⟨⟨_, _, _⟩, fun wx => repeat_any (Wd.mk' h1 h2 hn) rfl (by omega) hk wx, (fw (K := wk W k) hwk (by show W * k ≤ 128; simpa using hq) (rep_lt hn k) rfl).1, (fw (K := wk W k) hwk (by show W * k ≤ 128; simpa using hq) (rep_lt hn k) rfl).2.trans (by unfold wk; simp)⟩
structure Wk (w : World) (wb g mg mk : Nat) (G M : List (Int × Bt)) : Prop where
 hd : w.heap[wb]? = some (.cells #[.pointer (some ⟨g, 0, none⟩), .map (some mg), .map (some mk)] 80)
 gv : Bm w mg G
 kn : Bm w mk M
 ne : mg ≠ mk ∧ mg ≠ wb ∧ mk ≠ wb
theorem Wk.below {w w' : World} {wb g mg mk : Nat} {G M : List (Int × Bt)} (h : Wk w wb g mg mk G M) (hb : Below w.heap.size w w') : Wk w' wb g mg mk G M :=
 ⟨(hb.block _ (Array.getElem?_eq_some_iff.1 h.hd).1).trans h.hd, h.gv.kept (hb.block _ h.gv.mp.lt), h.kn.kept (hb.block _ h.kn.mp.lt), h.ne⟩
theorem nw_any {w : World} {B g mi mv mo c : Nat} {v : Value} {ns : List Nd} {a : Option Addr} {l : List Nv} (h : Gr w B g mi mv v mo ns) (he : Le w a l) (hnm : ∀ x ∈ l, x.nm.size ≤ maxLen) (hl : l.length ≤ 1000) :
  Calls Try.prog 30 #[.pointer (some ⟨g, 0, none⟩), .slice a l.length c] w fun e w' => ∃ wb mk, e = .returned (.pointer (some ⟨wb, 0, none⟩)) ∧ w.heap.size ≤ wb ∧ w.heap.size ≤ mk ∧ Wk w' wb g w.heap.size mk (fvF ns l) [] ∧ Below w.heap.size w w' := by
 have HF : Hid _ := fv_any (c := c) h he hnm hl
 have hmm := @run_makeMap Try.prog
 obtain ⟨n, hn⟩ : ∃ n, n = l.length := ⟨_, rfl⟩
 rw [← hn] at HF ⊢
 clear h he hnm hl hn
 go_enter Try.func30, Try.ntmps30
 go_wp2_with fail
 refine Calls.mono HF.out ?_
 rintro e w1 ⟨rfl, hM, hb⟩
 have HM : Hid _ := hM
 have hs := hM.mp.lt
 clear hM
 go_wp2_with fail
 go_ret
 refine ⟨_, _, rfl, ?_, ?_, ⟨?_, (HM.out.kept (heap_alloc_old w1 (.map #[] 0) hs)).kept (heap_alloc_old _ _ (by rw [size_alloc']; omega)), (Bm.made w1).kept (heap_alloc_old _ _ (by rw [size_alloc']; omega)), ?_, ?_, ?_⟩, (hb.alloc hb.size _).alloc (by rw [size_alloc']; have := hb.size; omega) _⟩
 ·have := hb.size; omega
 ·exact hb.size
 ·have := heap_alloc_new (w1.alloc (.map #[] 0)) (.cells #[.pointer (some ⟨g, 0, none⟩), .map (some w.heap.size), .map (some w1.heap.size)] 80)
  rw [size_alloc'] at this
  exact this
 ·omega
 ·omega
 ·omega
theorem pv_const {w : World} {B g mi mv mo wb mg mk i : Nat} {v : Value} {ns : List Nd} {G M : List (Int × Bt)} {n : Nd} (h : Gr w B g mi mv v mo ns) (hw : Wk w wb g mg mk G M) (hi : ns[i]? = some n) (hop : n.op = 1) :
  Calls Try.prog 42 #[.pointer (some ⟨wb, 0, none⟩), .int .i64 ((i : Int) + 1)] w fun e w' => e = .returned (.tuple #[.agg #[.int .i64 n.w, .int .u64 n.lo, .int .u64 n.hi], .int .i64 0]) ∧ Below w.heap.size w w' := by
 have c0 : w.cell? ⟨wb, 0, none⟩ = some (.pointer (some ⟨g, 0, none⟩)) := cell_of hw.hd 0 rfl
 have hwb : wb < w.heap.size := (Array.getElem?_eq_some_iff.1 hw.hd).1
 have HND : Hid (∀ wx, Below w.heap.size w wx → Calls Try.prog 18 #[.pointer (some ⟨g, 0, none⟩), .int .i64 ((i : Int) + 1)] wx fun e w' => e = .returned (.tuple #[.agg #[.int .i64 n.op, .int .i64 n.s, .int .i64 n.a, .int .i64 n.b, .int .i64 n.c, .int .i64 n.p, .int .i64 n.q, .int .i64 n.w, .int .u64 n.lo, .int .u64 n.hi, .string n.nm], .bool true]) ∧ Below wx.heap.size wx w') := fun wx hb => node_yes (h.below hb) hi
 have z1 : (n.op == 1) = true := by simp [hop]
 clear h hw hi hop
 go_enter Try.func42, Try.ntmps42
 go_wp2_with fail
 refine Calls.mono (HND.out _ (by go_grown)) ?_
 rintro e w1 ⟨rfl, hb⟩
 have hB : Below w.heap.size w w1 := Below.trans (by go_grown) (hb.mono (by simp))
 have r0 : w1.cell? ⟨w.heap.size, 0, none⟩ = some (.int .i64 0) := by rw [hb.cell (p := ⟨w.heap.size, 0, none⟩) (by simp)]; simp
 have r1 : w1.cell? ⟨w.heap.size, 1, none⟩ = some (.int .u64 0) := by rw [hb.cell (p := ⟨w.heap.size, 1, none⟩) (by simp)]; simp
 have r2 : w1.cell? ⟨w.heap.size, 2, none⟩ = some (.int .u64 0) := by rw [hb.cell (p := ⟨w.heap.size, 2, none⟩) (by simp)]; simp
 have rf : ∀ j, w1.frozen? ⟨w.heap.size, j, none⟩ = false := fun j => by rw [hb.frozen (p := ⟨w.heap.size, j, none⟩) (by simp)]; simp
 have hs1 : w.heap.size < w1.heap.size := by have := hb.size; simp at this; omega
 clear hb
 go_wp2_with fail
 refine bodyPost_ret (v := .tuple #[.agg #[.int .i64 n.w, .int .u64 n.lo, .int .u64 n.hi], .int .i64 0]) (by simp [results, Try.results42, go_sem, r0, r1, r2, hs1]) rfl ?_
 exact ⟨rfl, by go_grown⟩
end Go.Proofs.Ytedldoobmmhloaa
