import Derived.Test.YtejljdbkocnhlaaGreatK
import Derived.Test.YtejljdbkocnhlaaGreatH
import Derived.Test.YtejljdbkocnhlaaGreatMg11
import Derived.Test.YtejljdbkocnhlaaGreatMg5
import Derived.Test.YtejljdbkocnhlaaGreatMg10
import Derived.Test.YtejljdbkocnhlaaGreatMg9
import Derived.Test.YtejljdbkocnhlaaGreatY10
import Derived.Test.YtejljdbkocnhlaaGreatMg2
namespace Go.Proofs.YtejljdbkocnhlaaGreat
set_option maxHeartbeats 12800000
set_option maxRecDepth 100000
open Go.RowKit
set_option linter.unusedSimpArgs false
set_option linter.unusedVariables false
def wk (W k : Nat) : Nat := W * k
def rep (V n : Nat) : Nat → Nat
 | 0 => 0
 | k + 1 => cat (rep V n k) V n
theorem rep_lt {V n : Nat} (h : n < 2 ^ V) : ∀ k, rep V n k < 2 ^ (V * k)
 | 0 => by simp [rep]
 | k + 1 => by
  have h1 := cat_lt (rep_lt h k) h
  rw [show V * k + V = V * (k + 1) from (Nat.mul_succ V k).symm] at h1
  exact h1
theorem repeat_any {W n k : Nat} {WW lo hi kk : Int} (hw : Wd WW lo hi W n) (hk : kk = k) (hk1 : 1 ≤ k) (hk2 : k ≤ 128 / W) (w : World) :
  Rt 85 #[.agg #[.int .i64 WW, .int .u64 lo, .int .u64 hi], .int .i64 kk] w (.tuple #[.agg #[.int .i64 ((wk W k : Nat) : Int), .int .u64 (LO (rep W n k)), .int .u64 (HI (rep W n k))], .int .i64 0]) := by
 obtain ⟨h1, h2, hn, rfl, rfl, rfl⟩ := hw
 subst hk
 have hWk : W * k ≤ 128 := Nat.le_trans (Nat.mul_le_mul_left W hk2) (Nat.mul_div_le 128 W)
 have hkl : k ≤ 128 := Nat.le_trans hk2 (Nat.div_le_self _ _)
 have hq : ¬ ((128 : Int) / (W : Int) < (k : Int)) := by
  rw [show ((128 : Int) / (W : Int)) = ((128 / W : Nat) : Int) from rfl]; omega
 go_enter Tryz.func85, Tryz.ntmps85
 go_wp2_with fail
 refine (isWord_any (Wd.mk' h1 h2 hn) _).mono ?_
 rintro e w1 ⟨rfl, hb1⟩
 have hb1' := below_step (w := w) (by go_grown) hb1
 have hs1 := hb1'.size
 have KF1 : W3 w1 w.heap.size W n <| F3 w1 w.heap.size <| S3 w1 (w.heap.size + 1) <| F3 w1 (w.heap.size + 1) <| True := (by refine k3 hb1 ?_ ?_ ?_ <| f3 hb1 ?_ ?_ <| s3 hb1 ?_ ?_ ?_ <| f3 hb1 ?_ ?_ <| trivial <;> (first | (simp [go_sem]; done))); have KF1z0 := zT KF1; have KF1z1 := zT KF1.2.2.2.2
 clear hb1
 go_wp2_with fail
 go_loopw [23] (fun i wr => ∃ j : Nat, j + 1 ≤ k ∧ i = .int .i64 j ∧ (wr.cell? ⟨w.heap.size, 0, none⟩ = some (.int .i64 W) ∧ wr.cell? ⟨w.heap.size, 1, none⟩ = some (.int .u64 (LO n)) ∧ wr.cell? ⟨w.heap.size, 2, none⟩ = some (.int .u64 (HI n))) ∧ (wr.cell? ⟨w.heap.size + 1, 0, none⟩ = some (cv wr ⟨w.heap.size + 1, 0, none⟩) ∧ wr.cell? ⟨w.heap.size + 1, 1, none⟩ = some (cv wr ⟨w.heap.size + 1, 1, none⟩) ∧ wr.cell? ⟨w.heap.size + 1, 2, none⟩ = some (cv wr ⟨w.heap.size + 1, 2, none⟩)) ∧ (wr.cell? ⟨w1.heap.size, 0, none⟩ = some (.int .i64 ((wk W (j + 1) : Nat) : Int)) ∧ wr.cell? ⟨w1.heap.size, 1, none⟩ = some (.int .u64 (LO (rep W n (j + 1)))) ∧ wr.cell? ⟨w1.heap.size, 2, none⟩ = some (.int .u64 (HI (rep W n (j + 1))))) ∧ (∀ o, wr.frozen? ⟨w.heap.size + 1, o, none⟩ = false) ∧ (∀ o, wr.frozen? ⟨w1.heap.size, o, none⟩ = false) ∧ Below w.heap.size w wr) (fun i _ => k - (intOf i).toNat)
 case atStart =>
  have e1 : rep W n 1 = n := by simp [rep, cat]
  have e2 : wk W 1 = W := Nat.mul_one W
  refine ⟨0, by omega, rfl, ⟨?_, ?_, ?_⟩, ⟨?_, ?_, ?_⟩, ⟨?_, ?_, ?_⟩, ?_, ?_, ?_⟩
  all_goals first | (simp [go_sem, KF1, KF1z0, KF1z1, e1, e2]; done) | (refine cv_some ?_; simp [go_sem, KF1, KF1z0, KF1z1]; done) | (intro j; simp [go_sem, KF1, KF1z0, KF1z1, frozen?_alloc_cells]; done) | go_grown
 case round =>
  obtain ⟨j, hj, rfl, ha, hr, hc, hf1, hf2, hbl⟩ := hrel
  have KF0 := And.intro ha (And.intro hr (And.intro hc (And.intro hf1 hf2)))
  clear ha hr hc hf1 hf2
  have hlt0 := rep_lt hn (j + 1)
  have hWj : W * (j + 1) + W ≤ 128 ∨ ¬ (j + 1 < k) := by
   by_cases h : j + 1 < k
   ·left
    have h3 : W * (j + 1 + 1) ≤ W * k := Nat.mul_le_mul_left W h
    rw [Nat.mul_succ] at h3
    omega
   ·right; exact h
  by_cases hlt : j + 1 < k
  ·have h5 : W * (j + 1) + W ≤ 128 := by rcases hWj with h | h <;> omega
   have h6 : 1 ≤ W * (j + 1) := Nat.mul_pos h1 (by omega)
   have h7 : W * (j + 1) ≤ 128 := by omega
   have HR : Hid (cat (rep W n (j + 1)) W n = rep W n (j + 2)) := rfl
   have HW : Hid (((wk W (j + 1) : Nat) : Int) + W = ((wk W (j + 2) : Nat) : Int)) := by unfold Hid wk; rw [Nat.mul_succ W (j + 1)]; omega
   have h6 : 1 ≤ wk W (j + 1) := h6
   have h7 : wk W (j + 1) ≤ 128 := h7
   have h5 : wk W (j + 1) + W ≤ 128 := h5
   have hlt0 : rep W n (j + 1) < 2 ^ wk W (j + 1) := hlt0
   clear hWj
   generalize rep W n (j + 1) = A at *
   generalize wk W (j + 1) = V at *
   go_wp2_with fail
   refine (above_any (W := V) (V := W) (Wd.mk' h6 h7 hlt0) (Wd.mk' h1 h2 hn) h5 _).mono ?_
   rintro e w2 ⟨rfl, hb2⟩
   have hb2' := below_step (w := w) (by go_grown) hb2
   have hs2 := hb2'.size
   have KF2 : W3 w2 w.heap.size W n <| S3 w2 (w.heap.size + 1) <| F3 w2 (w.heap.size + 1) <| W3 w2 w1.heap.size V A <| F3 w2 w1.heap.size <| True := (by refine k3 hb2 ?_ ?_ ?_ <| s3 hb2 ?_ ?_ ?_ <| f3 hb2 ?_ ?_ <| k3 hb2 ?_ ?_ ?_ <| f3 hb2 ?_ ?_ <| trivial <;> (first | (simp [go_sem]; done) | (simp [go_sem, KF0]; done) | (simp [go_sem, KF0, World.cell?_alloc_some, frozen?_alloc_cells]; done))); have KF2z0 := zT KF2; have KF2z1 := zT KF2.2.2.2; have KF2z2 := zT KF2.2.2.2.2.2.2.2
   clear hb2 KF0
   go_wp2_with fail
   have KFE := And.intro KF2 (And.intro HR.out HW.out)
   refine ⟨⟨j + 1, by omega, by go_num, ⟨?_, ?_, ?_⟩, ⟨?_, ?_, ?_⟩, ⟨?_, ?_, ?_⟩, ?_, ?_, ?_⟩, by simp [intOf]; omega⟩
   all_goals first | (simp [go_sem, KFE]; done) | (refine cv_some ?_; simp [go_sem, KFE]; done) | (intro j; simp [go_sem, KFE]; done) | go_grown
  ·obtain rfl : j + 1 = k := by omega
   have hlt2 : ¬ ((j : Int) < (j : Int) + 1 - 1) := by omega
   go_wp2_with fail
   refine bodyPost_ret (v := .tuple #[.agg #[.int .i64 ((wk W (j + 1) : Nat) : Int), .int .u64 (LO (rep W n (j + 1))), .int .u64 (HI (rep W n (j + 1)))], .int .i64 0]) (by simp [results, Tryz.results85, go_sem, KF0]) rfl ?_
   exact ⟨rfl, by go_grown⟩
open Go.RowKit
def RW (A : Int) (N : Nat) : Prop := 1 ≤ A ∧ A ≤ 128 ∧ N < 2 ^ A.toNat
open Go.RowKit
theorem bs_cells {w : World} {base g W n : Nat} (h : Bs w base (.slice (some ⟨g, 0, none⟩) W W) (bl W n)) : ∀ j, j < W → w.cell? ⟨g, 0 + j, none⟩ = some (.bool (n.testBit j)) := fun j hj => by
 rw [Nat.zero_add]; exact Bs.cell h (bl_len W n).symm (bl_get hj)
theorem refright_out {A : Int} {N : Nat} (h : A < 0 ∨ 128 < A) (w : World) :
  Rt 30 #[.agg #[.int .i64 A, .int .u64 (LO (N)), .int .u64 (HI (N))]] w (.bool false) := by
 by_cases h0 : A < 0
 ·go_enter Tryz.func30, Tryz.ntmps30
  go_wp2_with fail
  go_ret
  exact ⟨rfl, by go_grown⟩
 ·have h1 : 128 < A := by omega
  go_enter Tryz.func30, Tryz.ntmps30
  go_wp2_with fail
  go_ret
  exact ⟨rfl, by go_grown⟩
theorem refright_0 {N : Nat} (w : World) :
  Rt 30 #[.agg #[.int .i64 0, .int .u64 (LO (N)), .int .u64 (HI (N))]] w (.bool (decide (LO N ≤ 1) && (HI N == 0))) := by
 by_cases h0 : LO N ≤ 1
 ·by_cases h1 : HI N = 0
  ·go_enter Tryz.func30, Tryz.ntmps30
   go_wp2_with fail
   go_ret
   exact ⟨by simp [h0, h1], by go_grown⟩
  ·go_enter Tryz.func30, Tryz.ntmps30
   go_wp2_with fail
   go_ret
   exact ⟨by simp [h0, h1], by go_grown⟩
 ·have hd : decide (LO N ≤ 1) = false := by simp; omega
  have HE : Hid ((decide (LO N ≤ 1) && (HI N == 0)) = false) := by unfold Hid; rw [hd]; rfl
  rw [HE.out]
  clear h0
  go_enter Tryz.func30, Tryz.ntmps30
  go_wp2_with fail
  go_ret
  exact ⟨rfl, by go_grown⟩
theorem refright_w {W N r : Nat} {c : Bool} (h1 : 1 ≤ W) (h2 : W ≤ 128) (hN : N < 2 ^ 128) (hr : N % 2 ^ W = r) (hc : eqB r N = c) (w : World) :
  Rt 30 #[.agg #[.int .i64 W, .int .u64 (LO (N)), .int .u64 (HI (N))]] w (.bool c) := by
 have hd : decide ((W : Int) < 0) = false := by simp only [decide_eq_false_iff_not]; omega
 have hd2 : decide ((128 : Int) < W) = false := by simp only [decide_eq_false_iff_not]; omega
 have hd3 : ((W : Int) == 0) = false := by simp; omega
 have HW : Hid (∀ (g : Nat) (wx : World), (∀ j, j < W → wx.cell? ⟨g, 0 + j, none⟩ = some (.bool (N.testBit j))) → g < wx.heap.size → Rt 49 #[.slice (some ⟨g, 0, none⟩) W W] wx (.agg #[.int .i64 W, .int .u64 (LO (r)), .int .u64 (HI (r))])) := fun g wx hx hg => by rw [← hr]; exact word_at h2 hN wx hx hg
 clear hr
 have hqe := eq_w
 go_enter Tryz.func30, Tryz.ntmps30
 go_wp2_with fail
 go_region_held3 (fun x => x.cell? ⟨w.heap.size, 0, none⟩ = some (.int .i64 W) ∧ x.cell? ⟨w.heap.size, 1, none⟩ = some (.int .u64 (LO (N))) ∧ x.cell? ⟨w.heap.size, 2, none⟩ = some (.int .u64 (HI (N))) ∧ Below w.heap.size w x)
  ((refine ⟨?_, ?_, ?_, ?_⟩ <;> first | (simp [go_sem]; done) | (refine cv_some ?_; simp [go_sem]; done) | (simp [go_sem, KFr, KFrz0]; done) | (refine cv_some ?_; simp [go_sem, KFr, KFrz0]; done) | (refine put_below ?_ ?_ <;> first | assumption | omega) | (have hH := ‹_ ∧ _ ∧ _ ∧ _›; exact put_below hH.2.2.2 (by omega)) | go_grown))
  ((first | (go_at_call 50; refine (bits_own h2 hN rfl rfl rfl _).mono ?_; rintro e wq ⟨g, rfl, hB, hb⟩; have hb' := below_step (w := w) (by go_grown) hb; have hs := hb'.size; have KFr : wq.cell? ⟨w.heap.size, 0, none⟩ = some (.int .i64 W) ∧ wq.cell? ⟨w.heap.size, 1, none⟩ = some (.int .u64 (LO (N))) ∧ wq.cell? ⟨w.heap.size, 2, none⟩ = some (.int .u64 (HI (N))) := (by refine ⟨keep_cell hb ?_, keep_cell hb ?_, keep_cell hb ?_⟩ <;> (first | (simp [go_sem]; done) | (simp [go_sem, KFr]; done) | (simp [go_sem, KFr, World.cell?_alloc_some, frozen?_alloc_cells]; done))); have KFrz0 : w.heap.size < wq.heap.size := World.block_lt_of_cell? _ _ KFr.1; have HBs : Hid (Bs wq _ (.slice (some ⟨g, 0, none⟩) W W) (bl W N)) := hB; clear hB; clear hb) | (go_at_call 49; refine (HW.out _ _ (bs_cells HBs.out) (Bs.lt HBs.out).2).mono ?_; rintro e wq ⟨rfl, hb⟩; have hb' := below_step (w := w) (by go_grown) hb; have hs := hb'.size; have KFr : wq.cell? ⟨w.heap.size, 0, none⟩ = some (.int .i64 W) ∧ wq.cell? ⟨w.heap.size, 1, none⟩ = some (.int .u64 (LO (N))) ∧ wq.cell? ⟨w.heap.size, 2, none⟩ = some (.int .u64 (HI (N))) := (by refine ⟨keep_cell hb ?_, keep_cell hb ?_, keep_cell hb ?_⟩ <;> (first | (simp [go_sem]; done) | (simp [go_sem, KFr]; done) | (simp [go_sem, KFr, World.cell?_alloc_some, frozen?_alloc_cells]; done))); have KFrz0 : w.heap.size < wq.heap.size := World.block_lt_of_cell? _ _ KFr.1; clear hb)))
 obtain ⟨-, -, -, hBq⟩ := ‹_ ∧ _ ∧ _ ∧ _›
 go_wp2_with fail
 go_ret
 exact ⟨rfl, by go_grown⟩
end Go.Proofs.YtejljdbkocnhlaaGreat
namespace Go.Proofs.YtejljdbkocnhlaaGreat
set_option maxHeartbeats 12800000
set_option maxRecDepth 100000
set_option linter.unusedSimpArgs false
set_option linter.unusedVariables false
open Go.RowKit
theorem refright_all {A lo hi : Int} (l0 : 0 ≤ lo) (l1 : lo < 18446744073709551616) (h0 : 0 ≤ hi) (h1 : hi < 18446744073709551616) (w : World) :
  Rt 30 #[.agg #[.int .i64 A, .int .u64 lo, .int .u64 hi]] w (.bool (rgt A lo hi)) := by
 obtain ⟨N, hN⟩ : ∃ N : Nat, N = (lo + 18446744073709551616 * hi).toNat := ⟨_, rfl⟩
 have hN2 : N < 2 ^ 128 := by omega
 have el : lo = LO N := by unfold LO; omega
 have eh : hi = HI N := by unfold HI; omega
 by_cases ho : A < 0 ∨ 128 < A
 ·have e : rgt A lo hi = false := by unfold rgt; rcases ho with h | h <;> simp [show ¬ 0 ≤ A ∨ ¬ A ≤ 128 from by omega] <;> omega
  rw [e, el, eh]
  exact refright_out ho w
 ·by_cases hz : A = 0
  ·subst hz
   have e : rgt 0 lo hi = (decide (LO N ≤ 1) && (HI N == 0)) := by
    rw [← el, ← eh]
    have e1 : rgt 0 lo hi = ((decide (lo = 0) && decide (hi = 0)) || (decide (lo = 1) && decide (hi = 0))) := by simp [rgt]
    rw [e1]
    by_cases h2 : hi = 0
    ·have : decide (lo ≤ 1) = (decide (lo = 0) || decide (lo = 1)) := by
      by_cases h3 : lo = 0
      ·simp [h3]
      ·by_cases h4 : lo = 1
       ·simp [h4]
       ·simp [h3, h4]; omega
     simp [h2, this]
    ·simp [h2]
   rw [e, el, eh]
   exact refright_0 w
  ·obtain ⟨W, rfl⟩ : ∃ W : Nat, A = W := ⟨A.toNat, by omega⟩
   have e : rgt (W : Int) lo hi = decide (N < 2 ^ W) := by
    unfold rgt
    rw [if_neg hz, show decide (0 ≤ (W : Int)) = true by simp, show decide ((W : Int) ≤ 128) = true by simp; omega, Int.toNat_natCast]
    simp only [Bool.true_and, decide_eq_decide]
    have e2 : ((2 : Int) ^ W) = ((2 ^ W : Nat) : Int) := by simp
    rw [e2]
    omega
   rw [e, el, eh]
   refine refright_w (by omega) (by omega) hN2 rfl ?_ w
   by_cases hlt : N < 2 ^ W
   ·rw [show decide (N < 2 ^ W) = true by simp [hlt]]
    exact eqB_yes (Nat.mod_eq_of_lt hlt)
   ·rw [show decide (N < 2 ^ W) = false by simp [hlt]]
    exact eqB_no (fun e => hlt (by rw [← e]; exact mod_lt_W _ _))
structure RSt (w : World) (B gB : Nat) (v : Value) (mo : Nat) (ns : List Nd) (n : Nd) (g : Nat → Nat) (L : Nat → Bool) (x : World) : Prop where
 d7 : L 7 = true → L 4 = true ∧ L 6 = true
 d10 : L 10 = true → L 7 = true
 sz : w.heap.size ≤ x.heap.size
 os : x.os = w.os
 tape : x.tape = w.tape
 output : x.output = w.output
 kp : ∀ k, k < w.heap.size → (L 7 = true → some k ≠ v.ownBlock) → (L 10 = true → k ≠ gB) → x.heap[k]? = w.heap[k]?
 s6 : L 6 = true → L 7 = false → x.heap[g 6]? = some (.cells n.cs.toArray 53)
 r7 : L 7 = true → x.ownsRow B 53 11 (sl (ns.length + 1) (g 7)) (ns.length + 1) ((ns ++ [n]).flatMap Nd.cs) ∧ ((sl (ns.length + 1) (g 7)).ownBlock = v.ownBlock ∨ ∃ b, (sl (ns.length + 1) (g 7)).ownBlock = some b ∧ w.heap.size ≤ b)
 h10 : L 10 = true → x.heap[gB]? = some (.cells #[sl (ns.length + 1) (g 7), .int .i64 (mo : Int)] 31)
section
variable {w : World} {B gB mo : Nat} {v : Value} {ns : List Nd} {n : Nd} {g : Nat → Nat} {L : Nat → Bool} {x y : World} {i : Nat}
theorem RSt.old (h : RSt w B gB v mo ns n g L x) {b : Nat} {o : Obj} (hb : w.heap[b]? = some o) (hl : b < w.heap.size) (h1 : some b ≠ v.ownBlock) (h2 : b ≠ gB) : x.heap[b]? = some o := (h.kp b hl (fun _ => h1) (fun _ => h2)).trans hb
theorem RSt.go (h : RSt w B gB v mo ns n g L x) (hi : (i != 6 && i != 7 && i != 10) = true) : RSt w B gB v mo ns n g (updB L i) x := by
 simp only [Bool.and_eq_true, bne_iff_ne, ne_eq] at hi
 have u6 := updB_ne (L := L) (i := i) (k := 6) (by omega)
 have u7 := updB_ne (L := L) (i := i) (k := 7) (by omega)
 have u10 := updB_ne (L := L) (i := i) (k := 10) (by omega)
 refine ⟨?_, by rw [u7, u10]; exact h.d10, h.sz, h.os, h.tape, h.output, by rw [u7, u10]; exact h.kp, by rw [u6, u7]; exact h.s6, by rw [u7]; exact h.r7, by rw [u10]; exact h.h10⟩
 rw [u6, u7]
 intro e
 refine ⟨?_, (h.d7 e).2⟩
 by_cases h4 : i = 4
 ·subst h4; exact updB_eq
 ·rw [updB_ne (L := L) (i := i) (k := 4) (by omega)]; exact (h.d7 e).1
theorem RSt.no10 (h : RSt w B gB v mo ns n g L x) (h7 : L 7 = false) : L 10 = false := by
 cases e : L 10
 ·rfl
 ·rw [h.d10 e] at h7; cases h7
theorem RSt.built (h : RSt w B gB v mo ns n g L x) (h6 : L 6 = false) : RSt w B gB v mo ns n (updG g 6 x.heap.size) (updB L 6) (x.alloc (.cells n.cs.toArray 53)) := by
 have h7 : L 7 = false := by
  cases e : L 7
  ·rfl
  ·rw [(h.d7 e).2] at h6; cases h6
 have h10 := h.no10 h7
 have u4 := updB_ne (L := L) (i := 6) (k := 4) (by decide)
 have u7 := updB_ne (L := L) (i := 6) (k := 7) (by decide)
 have u10 := updB_ne (L := L) (i := 6) (k := 10) (by decide)
 have hs := h.sz
 refine ⟨?_, ?_, by simp; omega, h.os, h.tape, h.output, ?_, ?_, ?_, ?_⟩
 ·rw [u7, h7]; intro e; cases e
 ·rw [u10, h10]; intro e; cases e
 ·rw [u7, u10]; intro k hk a b; exact (heap_alloc_old _ _ (by omega)).trans (h.kp k hk a b)
 ·intro _ _; rw [updG_eq]; exact heap_alloc_new _ _
 ·rw [u7, h7]; intro e; cases e
 ·rw [u10, h10]; intro e; cases e
theorem RSt.app {p : Nat} (h : RSt w B gB v mo ns n g L x) (hL4 : L 4 = true) (hL6 : L 6 = true) (hL7 : L 7 = false) (hbv : ∀ k, v.ownBlock = some k → k < w.heap.size)
  (hg : x.grownBy y v.ownBlock) (ho : y.ownsRow B 53 11 (sl (ns.length + 1) p) (ns.length + 1) ((ns ++ [n]).flatMap Nd.cs)) (hat : (sl (ns.length + 1) p).ownBlock = v.ownBlock ∨ (sl (ns.length + 1) p).ownBlock = some x.heap.size) :
  RSt w B gB v mo ns n (updG g 7 p) (updB L 7) y := by
 have h10 := h.no10 hL7
 have u4 := updB_ne (L := L) (i := 7) (k := 4) (by decide)
 have u6 := updB_ne (L := L) (i := 7) (k := 6) (by decide)
 have u10 := updB_ne (L := L) (i := 7) (k := 10) (by decide)
 have hs := h.sz
 refine ⟨?_, ?_, by have := hg.size; omega, hg.os.trans h.os, hg.tape.trans h.tape, hg.output.trans h.output, ?_, ?_, ?_, ?_⟩
 ·intro _; rw [u4, u6]; exact ⟨hL4, hL6⟩
 ·rw [u10, h10]; intro e; cases e
 ·rw [u10]; intro k hk a b
  exact (hg.block k (by omega) (a updB_eq)).trans (h.kp k hk (fun e => by rw [hL7] at e; cases e) b)
 ·intro _ e; rw [updB_eq] at e; cases e
 ·intro _; rw [updG_eq]
  refine ⟨ho, ?_⟩
  rcases hat with e | e
  ·exact Or.inl e
  ·exact Or.inr ⟨_, e, hs⟩
 ·rw [u10, h10]; intro e; cases e
theorem RSt.store (h : RSt w B gB v mo ns n g L x) (hL7 : L 7 = true) (hL10 : L 10 = false) (hgB : gB < w.heap.size) (hne : v.ownBlock ≠ some gB) (hhd : w.heap[gB]? = some (.cells #[v, .int .i64 (mo : Int)] 31)) :
  RSt w B gB v mo ns n g (updB L 10) (x.setCell ⟨gB, 0, none⟩ (sl (ns.length + 1) (g 7))) := by
 have u4 := updB_ne (L := L) (i := 10) (k := 4) (by decide)
 have u6 := updB_ne (L := L) (i := 10) (k := 6) (by decide)
 have u7 := updB_ne (L := L) (i := 10) (k := 7) (by decide)
 have hx : x.heap[gB]? = w.heap[gB]? := h.kp gB hgB (fun _ e => hne e.symm) (fun e => by rw [hL10] at e; cases e)
 have hr := h.r7 hL7
 have hne2 : (sl (ns.length + 1) (g 7)).ownBlock ≠ some gB := by
  rcases hr.2 with e | ⟨b, e, hb⟩
  ·rw [e]; exact hne
  ·rw [e]; intro q; cases q; omega
 refine ⟨by rw [u7, u4, u6]; exact h.d7, fun _ => by rw [u7]; exact hL7, by rw [World.size_setCell]; exact h.sz, h.os, h.tape, h.output, ?_, ?_, ?_, ?_⟩
 ·rw [u7]; intro k hk a b
  have hk' := b updB_eq
  exact (heap_setCell_other _ _ _ _ (by show k ≠ gB; exact hk')).trans (h.kp k hk a (fun e => by rw [hL10] at e; cases e))
 ·rw [u7, hL7]; intro _ e; cases e
 ·intro _; rw [u7] at *; exact ⟨row_far hr.1 hne2, hr.2⟩
 ·intro _
  rw [heap_setCell_same _ _ _ _ _ _ (hx.trans hhd)]; rfl
end
structure RChg (w w' : World) (gB : Nat) (v : Value) : Prop where
 os : w'.os = w.os
 tape : w'.tape = w.tape
 output : w'.output = w.output
 size : w.heap.size ≤ w'.heap.size
 block : ∀ k, k < w.heap.size → k ≠ gB → some k ≠ v.ownBlock → w'.heap[k]? = w.heap[k]?
theorem RChg.of {w w' : World} {g : Nat} {v : Value} (h : Below w.heap.size w w') : RChg w w' g v := ⟨h.os, h.tape, h.output, h.size, fun k hk _ _ => h.block k hk⟩
theorem Rg.far {w : World} {B g mo : Nat} {v : Value} {ns : List Nd} (h : Rg w B g v mo ns) : v.ownBlock ≠ some g := by
 intro e
 rcases h.row.2 with ⟨rfl, _⟩ | ⟨r, cap, cur, rfl, _, hr, _⟩
 ·cases e
 ·cases e; rw [h.hd] at hr; cases hr
theorem rmk_end {w wU x : World} {B gB mo : Nat} {v : Value} {ns : List Nd} {n' : Nd} {g : Nat → Nat} (hG : Rg w B gB v mo ns) (hU : Below w.heap.size w wU) (hS : RSt wU B gB v mo ns n' g (fun k => decide (k < 11)) x) (hroom : ns.length < mo) :
  ∃ v', Rg x B gB v' mo (ns ++ [n']) ∧ RChg w x gB v ∧ (v'.ownBlock = v.ownBlock ∨ ∃ b, v'.ownBlock = some b ∧ w.heap.size ≤ b) := by
 have hr := hS.r7 rfl
 refine ⟨sl (ns.length + 1) (g 7), ⟨hS.h10 rfl, by rw [List.length_append, List.length_singleton]; exact hr.1, hG.bg, hG.most, by simp; omega⟩, ⟨hS.os.trans hU.os, hS.tape.trans hU.tape, hS.output.trans hU.output, Nat.le_trans hU.size hS.sz, fun k hk h1 h2 => (hS.kp k (Nat.lt_of_lt_of_le hk hU.size) (fun _ => h2) (fun _ => h1)).trans (hU.block k hk)⟩, ?_⟩
 rcases hr.2 with e | ⟨b, e, hb⟩
 ·exact Or.inl e
 ·exact Or.inr ⟨b, e, Nat.le_trans hU.size hb⟩
theorem Mkd.of_err {mo : Nat} {ns ns' : List Nd} {n : Nd} {id er s e : Int} (hM : Mkd mo ns n id er ns') (h : srtOf ns n = (s, e)) (he : ¬ e = 0) : id = 0 ∧ er = e ∧ ns = ns' := by
 cases hM with
 | err h' _ => rw [h] at h'; cases h'; exact ⟨rfl, rfl, rfl⟩
 | old h' _ => rw [h] at h'; cases h'; exact absurd rfl he
 | full h' _ _ => rw [h] at h'; cases h'; exact absurd rfl he
 | new h' _ _ => rw [h] at h'; cases h'; exact absurd rfl he
theorem Mkd.of_ok {mo : Nat} {ns ns' : List Nd} {n : Nd} {id er s : Int} (hM : Mkd mo ns n id er ns') (h : srtOf ns n = (s, 0)) :
  (∃ i : Nat, ns[i]? = some (n.wi s) ∧ id = (i : Int) + 1 ∧ er = 0 ∧ ns = ns') ∨ (n.wi s ∉ ns ∧ ((ns.length = mo ∧ id = 0 ∧ er = 33 ∧ ns = ns') ∨ (ns.length < mo ∧ id = (ns.length : Int) + 1 ∧ er = 0 ∧ ns' = ns ++ [n.wi s]))) := by
 cases hM with
 | err h' h0 => rw [h] at h'; cases h'; exact absurd rfl h0
 | old h' hi => rw [h] at h'; cases h'; exact Or.inl ⟨_, hi, rfl, rfl, rfl⟩
 | full h' hn hl => rw [h] at h'; cases h'; exact Or.inr ⟨hn, Or.inl ⟨hl, rfl, rfl, rfl⟩⟩
 | new h' hn hl => rw [h] at h'; cases h'; exact Or.inr ⟨hn, Or.inr ⟨hl, rfl, rfl, rfl⟩⟩
structure Bx (w wr : World) (n : Nd) : Prop where
 box : wr.heap[w.heap.size]? = some (.cells n.cs.toArray 53)
 kid : ∀ q, q < 3 → wr.cell? ⟨w.heap.size + 1, q, none⟩ = some (.int .i64 (opn n q))
 size : w.heap.size + 2 ≤ wr.heap.size
 bel : Below w.heap.size w wr
theorem Bx.low {w wr wy : World} {n : Nd} (h : Bx w wr n) (hb : Below (w.heap.size + 2) wr wy) : Bx w wy n :=
 ⟨(hb.block _ (by omega)).trans h.box, fun q hq => by rw [hb.cell (p := ⟨w.heap.size + 1, q, none⟩) (by show w.heap.size + 1 < _; omega)]; exact h.kid q hq, Nat.le_trans h.size hb.size, h.bel.trans (hb.mono (by omega))⟩
theorem Bx.below {w wr wy : World} {n : Nd} (h : Bx w wr n) (hb : Below wr.heap.size wr wy) : Bx w wy n := h.low (hb.mono h.size)
theorem Bx.made (w : World) (n : Nd) : Bx w ((w.alloc (.cells #[.int .i64 n.op, .int .i64 n.s, .int .i64 n.a, .int .i64 n.b, .int .i64 n.c, .int .i64 n.p, .int .i64 n.q, .int .i64 n.w, .int .u64 n.lo, .int .u64 n.hi, .string n.nm] 53)).alloc (.cells #[.int .i64 n.a, .int .i64 n.b, .int .i64 n.c] 3)) n := by
 have h0 := heap_alloc_new w (.cells #[.int .i64 n.op, .int .i64 n.s, .int .i64 n.a, .int .i64 n.b, .int .i64 n.c, .int .i64 n.p, .int .i64 n.q, .int .i64 n.w, .int .u64 n.lo, .int .u64 n.hi, .string n.nm] 53)
 have h1 := heap_alloc_new (w.alloc (.cells #[.int .i64 n.op, .int .i64 n.s, .int .i64 n.a, .int .i64 n.b, .int .i64 n.c, .int .i64 n.p, .int .i64 n.q, .int .i64 n.w, .int .u64 n.lo, .int .u64 n.hi, .string n.nm] 53)) (.cells #[.int .i64 n.a, .int .i64 n.b, .int .i64 n.c] 3)
 rw [size_alloc'] at h1
 refine ⟨(heap_alloc_old _ _ (by simp)).trans h0, fun q hq => ?_, by simp, ((Below.refl _ _).alloc (Nat.le_refl _) _).alloc (by simp) _⟩
 have : q = 0 ∨ q = 1 ∨ q = 2 := by omega
 rcases this with rfl | rfl | rfl
 ·exact cell_of h1 0 rfl
 ·exact cell_of h1 1 rfl
 ·exact cell_of h1 2 rfl
theorem Nd.wi_self (n : Nd) : n.wi n.s = n := rfl
theorem str_nil {b : ByteArray} (h : b.size = 0) : b.toList = [] := by
 have h1 := emp_eq b
 rw [h] at h1
 simpa using h1
theorem str_not {b : ByteArray} (h : ¬ b.size = 0) : ¬ b.toList = [] := by
 have h1 := emp_eq b
 rw [show (b.size == 0) = false by simp [h]] at h1
 intro e
 rw [e] at h1
 cases h1
theorem oss_none {ns : List Nd} {n : Nd} {K j : Nat} (hK : ari n.op = (K : Int)) (h3 : K ≤ 3) (hj : K ≤ j) : (oss ns n).take (j + 1) = (oss ns n).take j := by
 have := oss_len (ns := ns) hK h3
 rw [List.take_of_length_le (by omega), List.take_of_length_le (by omega)]
theorem oss_one {ns : List Nd} {n m : Nd} {j : Nat} (h : (oss ns n)[j]? = some m.s) : (oss ns n).take (j + 1) = (oss ns n).take j ++ [m.s] := by
 rw [List.take_add_one, h]; rfl
theorem prt_parts {N : Nat} {n : Nd} (hp : prt N n = true) : (∃ K : Nat, K ≤ 3 ∧ ari n.op = (K : Int) ∧ ∀ q : Nat, q < 3 → opB N (K : Int) (q : Int) (opn n q) = true) ∧ (n.op = 1 ∨ zB n.w n.lo n.hi = true) ∧ (n.op = 2 ∨ n.nm.size = 0) := by
 have h3 := ari_le n.op
 rw [prt_eq rfl] at hp
 simp only [Bool.and_eq_true, Bool.or_eq_true, decide_eq_true_eq, beq_iff_eq] at hp
 obtain ⟨⟨⟨⟨⟨h0, ha⟩, hb⟩, hc⟩, hz⟩, hn⟩ := hp
 refine ⟨⟨(ari n.op).toNat, by omega, by omega, fun q hq => ?_⟩, hz, hn⟩
 rw [Int.toNat_of_nonneg h0]
 have : q = 0 ∨ q = 1 ∨ q = 2 := by omega
 rcases this with rfl | rfl | rfl
 ·exact ha
 ·exact hb
 ·exact hc
open Go.RowKit
theorem wide_le {s : Int} (h : s ≤ 128) (w : World) :
  Calls Tryz.prog 90 #[.int .i64 s] w fun e w' => e = .returned (.tuple #[.int .i64 s, .int .i64 0]) ∧ w' = w := by
 have h2 : ¬ 128 < s := by omega
 go_enter Tryz.func90, Tryz.ntmps90
 go_wp2_with fail
 refine bodyPost_ret (v := .tuple #[.int .i64 s, .int .i64 0]) (by simp [results, Tryz.results90, go_sem]) rfl ?_
 exact ⟨rfl, rfl⟩
theorem wide_gt {s : Int} (h : 128 < s) (w : World) :
  Calls Tryz.prog 90 #[.int .i64 s] w fun e w' => e = .returned (.tuple #[.int .i64 0, .int .i64 31]) ∧ w' = w := by
 go_enter Tryz.func90, Tryz.ntmps90
 go_wp2_with fail
 refine bodyPost_ret (v := .tuple #[.int .i64 0, .int .i64 31]) (by simp [results, Tryz.results90, go_sem]) rfl ?_
 exact ⟨rfl, rfl⟩
theorem wrap_eq64 (x : Int) : IntKind.i64.wrap x = wrap64 x := by rw [IntKind.wrap_i64]; unfold wrap64; rfl
def wdF (s : Int) : Int × Int := if s ≤ 128 then (s, 0) else (0, 31)
theorem wide_any (s : Int) (w : World) :
  Calls Tryz.prog 90 #[.int .i64 s] w fun e w' => e = .returned (.tuple #[.int .i64 (wdF s).1, .int .i64 (wdF s).2]) ∧ w' = w := by
 by_cases h : s ≤ 128
 ·rw [show wdF s = (s, 0) by unfold wdF; rw [if_pos h]]; exact wide_le h w
 ·rw [show wdF s = (0, 31) by unfold wdF; rw [if_neg h]]; exact wide_gt (by omega) w
def nmF (op p q s : Int) : Int × Int :=
 if s = 0 then (0, 30) else if nft op p q s = false then (0, 30) else if op = 39 then (p - q + 1, 0) else if op = 40 ∨ op = 41 then (if 128 < p then (0, 31) else wdF (s + p)) else if op = 44 then (if 128 < p then (0, 31) else wdF (s * p)) else (s, 0)
theorem nm0_39 {p q s : Int} (hs : s = 0) (w : World) :
  Calls Tryz.prog 88 #[.int .i64 39, .int .i64 p, .int .i64 q, .int .i64 s] w fun e w' => e = .returned (.tuple #[.int .i64 0, .int .i64 30]) ∧ w' = w := by
 subst hs
 go_enter Tryz.func88, Tryz.ntmps88
 go_wp2_with fail
 refine bodyPost_ret (v := .tuple #[.int .i64 0, .int .i64 30]) (by simp [results, Tryz.results88, go_sem]) rfl ?_
 exact ⟨rfl, rfl⟩
theorem nm0_40 {p q s : Int} (hs : s = 0) (w : World) :
  Calls Tryz.prog 88 #[.int .i64 40, .int .i64 p, .int .i64 q, .int .i64 s] w fun e w' => e = .returned (.tuple #[.int .i64 0, .int .i64 30]) ∧ w' = w := by
 subst hs
 go_enter Tryz.func88, Tryz.ntmps88
 go_wp2_with fail
 refine bodyPost_ret (v := .tuple #[.int .i64 0, .int .i64 30]) (by simp [results, Tryz.results88, go_sem]) rfl ?_
 exact ⟨rfl, rfl⟩
theorem nm0_41 {p q s : Int} (hs : s = 0) (w : World) :
  Calls Tryz.prog 88 #[.int .i64 41, .int .i64 p, .int .i64 q, .int .i64 s] w fun e w' => e = .returned (.tuple #[.int .i64 0, .int .i64 30]) ∧ w' = w := by
 subst hs
 go_enter Tryz.func88, Tryz.ntmps88
 go_wp2_with fail
 refine bodyPost_ret (v := .tuple #[.int .i64 0, .int .i64 30]) (by simp [results, Tryz.results88, go_sem]) rfl ?_
 exact ⟨rfl, rfl⟩
theorem nm0_42 {p q s : Int} (hs : s = 0) (w : World) :
  Calls Tryz.prog 88 #[.int .i64 42, .int .i64 p, .int .i64 q, .int .i64 s] w fun e w' => e = .returned (.tuple #[.int .i64 0, .int .i64 30]) ∧ w' = w := by
 subst hs
 go_enter Tryz.func88, Tryz.ntmps88
 go_wp2_with fail
 refine bodyPost_ret (v := .tuple #[.int .i64 0, .int .i64 30]) (by simp [results, Tryz.results88, go_sem]) rfl ?_
 exact ⟨rfl, rfl⟩
theorem nm0_43 {p q s : Int} (hs : s = 0) (w : World) :
  Calls Tryz.prog 88 #[.int .i64 43, .int .i64 p, .int .i64 q, .int .i64 s] w fun e w' => e = .returned (.tuple #[.int .i64 0, .int .i64 30]) ∧ w' = w := by
 subst hs
 go_enter Tryz.func88, Tryz.ntmps88
 go_wp2_with fail
 refine bodyPost_ret (v := .tuple #[.int .i64 0, .int .i64 30]) (by simp [results, Tryz.results88, go_sem]) rfl ?_
 exact ⟨rfl, rfl⟩
theorem nm0_44 {p q s : Int} (hs : s = 0) (w : World) :
  Calls Tryz.prog 88 #[.int .i64 44, .int .i64 p, .int .i64 q, .int .i64 s] w fun e w' => e = .returned (.tuple #[.int .i64 0, .int .i64 30]) ∧ w' = w := by
 subst hs
 go_enter Tryz.func88, Tryz.ntmps88
 go_wp2_with fail
 refine bodyPost_ret (v := .tuple #[.int .i64 0, .int .i64 30]) (by simp [results, Tryz.results88, go_sem]) rfl ?_
 exact ⟨rfl, rfl⟩
theorem nm39_a {p q s : Int} (hs : ¬ s = 0) (h1 : q < 0) (w : World) :
  Calls Tryz.prog 88 #[.int .i64 39, .int .i64 p, .int .i64 q, .int .i64 s] w fun e w' => e = .returned (.tuple #[.int .i64 0, .int .i64 30]) ∧ w' = w := by
 have zs : (s == 0) = false := by simp [hs]
 go_enter Tryz.func88, Tryz.ntmps88
 go_wp2_with fail
 refine bodyPost_ret (v := .tuple #[.int .i64 0, .int .i64 30]) (by simp [results, Tryz.results88, go_sem]) rfl ?_
 exact ⟨rfl, rfl⟩
theorem nm39_b {p q s : Int} (hs : ¬ s = 0) (h1 : ¬ q < 0) (h2 : p < q) (w : World) :
  Calls Tryz.prog 88 #[.int .i64 39, .int .i64 p, .int .i64 q, .int .i64 s] w fun e w' => e = .returned (.tuple #[.int .i64 0, .int .i64 30]) ∧ w' = w := by
 have zs : (s == 0) = false := by simp [hs]
 go_enter Tryz.func88, Tryz.ntmps88
 go_wp2_with fail
 refine bodyPost_ret (v := .tuple #[.int .i64 0, .int .i64 30]) (by simp [results, Tryz.results88, go_sem]) rfl ?_
 exact ⟨rfl, rfl⟩
theorem nm39_c {p q s : Int} (hs : ¬ s = 0) (h1 : ¬ q < 0) (h2 : ¬ p < q) (h3 : s ≤ p) (w : World) :
  Calls Tryz.prog 88 #[.int .i64 39, .int .i64 p, .int .i64 q, .int .i64 s] w fun e w' => e = .returned (.tuple #[.int .i64 0, .int .i64 30]) ∧ w' = w := by
 have zs : (s == 0) = false := by simp [hs]
 go_enter Tryz.func88, Tryz.ntmps88
 go_wp2_with fail
 refine bodyPost_ret (v := .tuple #[.int .i64 0, .int .i64 30]) (by simp [results, Tryz.results88, go_sem]) rfl ?_
 exact ⟨rfl, rfl⟩
theorem nm39_d {p q s : Int} (hs : ¬ s = 0) (h1 : ¬ q < 0) (h2 : ¬ p < q) (h3 : ¬ s ≤ p) (h4 : s ≤ 128) (w : World) :
  Calls Tryz.prog 88 #[.int .i64 39, .int .i64 p, .int .i64 q, .int .i64 s] w fun e w' => e = .returned (.tuple #[.int .i64 (p - q + 1), .int .i64 0]) ∧ w' = w := by
 have zs : (s == 0) = false := by simp [hs]
 have e1 : IntKind.i64.wrap (p - q) = p - q := by rw [IntKind.wrap_i64]; omega
 have e2 : IntKind.i64.wrap (p - q + 1) = p - q + 1 := by rw [IntKind.wrap_i64]; omega
 go_enter Tryz.func88, Tryz.ntmps88
 go_wp2_with fail
 refine bodyPost_ret (v := .tuple #[.int .i64 (p - q + 1), .int .i64 0]) (by simp [results, Tryz.results88, go_sem]) rfl ?_
 exact ⟨rfl, rfl⟩
theorem nm40_a {p q s : Int} (hs : ¬ s = 0) (hq : ¬ q = 0) (w : World) :
  Calls Tryz.prog 88 #[.int .i64 40, .int .i64 p, .int .i64 q, .int .i64 s] w fun e w' => e = .returned (.tuple #[.int .i64 0, .int .i64 30]) ∧ w' = w := by
 have zs : (s == 0) = false := by simp [hs]
 have zq : (q == 0) = false := by simp [hq]
 have yq : (q != 0) = true := by simp [hq]
 clear hq
 go_enter Tryz.func88, Tryz.ntmps88
 go_wp2_with fail
 refine bodyPost_ret (v := .tuple #[.int .i64 0, .int .i64 30]) (by simp [results, Tryz.results88, go_sem]) rfl ?_
 exact ⟨rfl, rfl⟩
theorem nm40_b {p q s : Int} (hs : ¬ s = 0) (hq : q = 0) (h1 : p < 0) (w : World) :
  Calls Tryz.prog 88 #[.int .i64 40, .int .i64 p, .int .i64 q, .int .i64 s] w fun e w' => e = .returned (.tuple #[.int .i64 0, .int .i64 30]) ∧ w' = w := by
 have zs : (s == 0) = false := by simp [hs]
 have zq : (q == 0) = true := by simp [hq]
 have yq : (q != 0) = false := by simp [hq]
 clear hq
 go_enter Tryz.func88, Tryz.ntmps88
 go_wp2_with fail
 refine bodyPost_ret (v := .tuple #[.int .i64 0, .int .i64 30]) (by simp [results, Tryz.results88, go_sem]) rfl ?_
 exact ⟨rfl, rfl⟩
theorem nm41_a {p q s : Int} (hs : ¬ s = 0) (hq : ¬ q = 0) (w : World) :
  Calls Tryz.prog 88 #[.int .i64 41, .int .i64 p, .int .i64 q, .int .i64 s] w fun e w' => e = .returned (.tuple #[.int .i64 0, .int .i64 30]) ∧ w' = w := by
 have zs : (s == 0) = false := by simp [hs]
 have zq : (q == 0) = false := by simp [hq]
 have yq : (q != 0) = true := by simp [hq]
 clear hq
 go_enter Tryz.func88, Tryz.ntmps88
 go_wp2_with fail
 refine bodyPost_ret (v := .tuple #[.int .i64 0, .int .i64 30]) (by simp [results, Tryz.results88, go_sem]) rfl ?_
 exact ⟨rfl, rfl⟩
theorem nm41_b {p q s : Int} (hs : ¬ s = 0) (hq : q = 0) (h1 : p < 0) (w : World) :
  Calls Tryz.prog 88 #[.int .i64 41, .int .i64 p, .int .i64 q, .int .i64 s] w fun e w' => e = .returned (.tuple #[.int .i64 0, .int .i64 30]) ∧ w' = w := by
 have zs : (s == 0) = false := by simp [hs]
 have zq : (q == 0) = true := by simp [hq]
 have yq : (q != 0) = false := by simp [hq]
 clear hq
 go_enter Tryz.func88, Tryz.ntmps88
 go_wp2_with fail
 refine bodyPost_ret (v := .tuple #[.int .i64 0, .int .i64 30]) (by simp [results, Tryz.results88, go_sem]) rfl ?_
 exact ⟨rfl, rfl⟩
theorem nm42_a {p q s : Int} (hs : ¬ s = 0) (hq : ¬ q = 0) (w : World) :
  Calls Tryz.prog 88 #[.int .i64 42, .int .i64 p, .int .i64 q, .int .i64 s] w fun e w' => e = .returned (.tuple #[.int .i64 0, .int .i64 30]) ∧ w' = w := by
 have zs : (s == 0) = false := by simp [hs]
 have zq : (q == 0) = false := by simp [hq]
 have yq : (q != 0) = true := by simp [hq]
 clear hq
 go_enter Tryz.func88, Tryz.ntmps88
 go_wp2_with fail
 refine bodyPost_ret (v := .tuple #[.int .i64 0, .int .i64 30]) (by simp [results, Tryz.results88, go_sem]) rfl ?_
 exact ⟨rfl, rfl⟩
theorem nm42_b {p q s : Int} (hs : ¬ s = 0) (hq : q = 0) (h1 : p < 0) (w : World) :
  Calls Tryz.prog 88 #[.int .i64 42, .int .i64 p, .int .i64 q, .int .i64 s] w fun e w' => e = .returned (.tuple #[.int .i64 0, .int .i64 30]) ∧ w' = w := by
 have zs : (s == 0) = false := by simp [hs]
 have zq : (q == 0) = true := by simp [hq]
 have yq : (q != 0) = false := by simp [hq]
 clear hq
 go_enter Tryz.func88, Tryz.ntmps88
 go_wp2_with fail
 refine bodyPost_ret (v := .tuple #[.int .i64 0, .int .i64 30]) (by simp [results, Tryz.results88, go_sem]) rfl ?_
 exact ⟨rfl, rfl⟩
theorem nm43_a {p q s : Int} (hs : ¬ s = 0) (hq : ¬ q = 0) (w : World) :
  Calls Tryz.prog 88 #[.int .i64 43, .int .i64 p, .int .i64 q, .int .i64 s] w fun e w' => e = .returned (.tuple #[.int .i64 0, .int .i64 30]) ∧ w' = w := by
 have zs : (s == 0) = false := by simp [hs]
 have zq : (q == 0) = false := by simp [hq]
 have yq : (q != 0) = true := by simp [hq]
 clear hq
 go_enter Tryz.func88, Tryz.ntmps88
 go_wp2_with fail
 refine bodyPost_ret (v := .tuple #[.int .i64 0, .int .i64 30]) (by simp [results, Tryz.results88, go_sem]) rfl ?_
 exact ⟨rfl, rfl⟩
theorem nm43_b {p q s : Int} (hs : ¬ s = 0) (hq : q = 0) (h1 : p < 0) (w : World) :
  Calls Tryz.prog 88 #[.int .i64 43, .int .i64 p, .int .i64 q, .int .i64 s] w fun e w' => e = .returned (.tuple #[.int .i64 0, .int .i64 30]) ∧ w' = w := by
 have zs : (s == 0) = false := by simp [hs]
 have zq : (q == 0) = true := by simp [hq]
 have yq : (q != 0) = false := by simp [hq]
 clear hq
 go_enter Tryz.func88, Tryz.ntmps88
 go_wp2_with fail
 refine bodyPost_ret (v := .tuple #[.int .i64 0, .int .i64 30]) (by simp [results, Tryz.results88, go_sem]) rfl ?_
 exact ⟨rfl, rfl⟩
theorem nm44_a {p q s : Int} (hs : ¬ s = 0) (hq : ¬ q = 0) (w : World) :
  Calls Tryz.prog 88 #[.int .i64 44, .int .i64 p, .int .i64 q, .int .i64 s] w fun e w' => e = .returned (.tuple #[.int .i64 0, .int .i64 30]) ∧ w' = w := by
 have zs : (s == 0) = false := by simp [hs]
 have zq : (q == 0) = false := by simp [hq]
 have yq : (q != 0) = true := by simp [hq]
 clear hq
 go_enter Tryz.func88, Tryz.ntmps88
 go_wp2_with fail
 refine bodyPost_ret (v := .tuple #[.int .i64 0, .int .i64 30]) (by simp [results, Tryz.results88, go_sem]) rfl ?_
 exact ⟨rfl, rfl⟩
theorem nm44_b {p q s : Int} (hs : ¬ s = 0) (hq : q = 0) (h1 : p < 0) (w : World) :
  Calls Tryz.prog 88 #[.int .i64 44, .int .i64 p, .int .i64 q, .int .i64 s] w fun e w' => e = .returned (.tuple #[.int .i64 0, .int .i64 30]) ∧ w' = w := by
 have zs : (s == 0) = false := by simp [hs]
 have zq : (q == 0) = true := by simp [hq]
 have yq : (q != 0) = false := by simp [hq]
 clear hq
 go_enter Tryz.func88, Tryz.ntmps88
 go_wp2_with fail
 refine bodyPost_ret (v := .tuple #[.int .i64 0, .int .i64 30]) (by simp [results, Tryz.results88, go_sem]) rfl ?_
 exact ⟨rfl, rfl⟩
theorem nm44_c {p q s : Int} (hs : ¬ s = 0) (hq : q = 0) (h1 : ¬ p < 0) (h2 : p < 1) (w : World) :
  Calls Tryz.prog 88 #[.int .i64 44, .int .i64 p, .int .i64 q, .int .i64 s] w fun e w' => e = .returned (.tuple #[.int .i64 0, .int .i64 30]) ∧ w' = w := by
 have zs : (s == 0) = false := by simp [hs]
 have zq : (q == 0) = true := by simp [hq]
 have yq : (q != 0) = false := by simp [hq]
 clear hq
 go_enter Tryz.func88, Tryz.ntmps88
 go_wp2_with fail
 refine bodyPost_ret (v := .tuple #[.int .i64 0, .int .i64 30]) (by simp [results, Tryz.results88, go_sem]) rfl ?_
 exact ⟨rfl, rfl⟩
theorem nm42_d {p q s : Int} (hs : ¬ s = 0) (hq : q = 0) (h1 : ¬ p < 0) (w : World) :
  Calls Tryz.prog 88 #[.int .i64 42, .int .i64 p, .int .i64 q, .int .i64 s] w fun e w' => e = .returned (.tuple #[.int .i64 s, .int .i64 0]) ∧ w' = w := by
 have zs : (s == 0) = false := by simp [hs]
 have zq : (q == 0) = true := by simp [hq]
 have yq : (q != 0) = false := by simp [hq]
 clear hq
 go_enter Tryz.func88, Tryz.ntmps88
 go_wp2_with fail
 refine bodyPost_ret (v := .tuple #[.int .i64 s, .int .i64 0]) (by simp [results, Tryz.results88, go_sem]) rfl ?_
 exact ⟨rfl, rfl⟩
theorem nm43_d {p q s : Int} (hs : ¬ s = 0) (hq : q = 0) (h1 : ¬ p < 0) (w : World) :
  Calls Tryz.prog 88 #[.int .i64 43, .int .i64 p, .int .i64 q, .int .i64 s] w fun e w' => e = .returned (.tuple #[.int .i64 s, .int .i64 0]) ∧ w' = w := by
 have zs : (s == 0) = false := by simp [hs]
 have zq : (q == 0) = true := by simp [hq]
 have yq : (q != 0) = false := by simp [hq]
 clear hq
 go_enter Tryz.func88, Tryz.ntmps88
 go_wp2_with fail
 refine bodyPost_ret (v := .tuple #[.int .i64 s, .int .i64 0]) (by simp [results, Tryz.results88, go_sem]) rfl ?_
 exact ⟨rfl, rfl⟩
theorem nm40_e {p q s : Int} (hs : ¬ s = 0) (hq : q = 0) (h1 : ¬ p < 0) (h3 : 128 < p) (w : World) :
  Calls Tryz.prog 88 #[.int .i64 40, .int .i64 p, .int .i64 q, .int .i64 s] w fun e w' => e = .returned (.tuple #[.int .i64 0, .int .i64 31]) ∧ w' = w := by
 have zs : (s == 0) = false := by simp [hs]
 have zq : (q == 0) = true := by simp [hq]
 have yq : (q != 0) = false := by simp [hq]
 clear hq
 go_enter Tryz.func88, Tryz.ntmps88
 go_wp2_with fail
 refine bodyPost_ret (v := .tuple #[.int .i64 0, .int .i64 31]) (by simp [results, Tryz.results88, go_sem]) rfl ?_
 exact ⟨rfl, rfl⟩
theorem nm40_f {p q s : Int} (hs : ¬ s = 0) (hq : q = 0) (h1 : ¬ p < 0) (h3 : ¬ 128 < p) (s0 : 0 ≤ s) (s1 : s ≤ 128) (w : World) :
  Calls Tryz.prog 88 #[.int .i64 40, .int .i64 p, .int .i64 q, .int .i64 s] w fun e w' => e = .returned (.tuple #[.int .i64 (wdF (s + p)).1, .int .i64 (wdF (s + p)).2]) ∧ w' = w := by
 have zs : (s == 0) = false := by simp [hs]
 have zq : (q == 0) = true := by simp [hq]
 have yq : (q != 0) = false := by simp [hq]
 clear hq
 have e1 : IntKind.i64.wrap (s + p) = s + p := by rw [IntKind.wrap_i64]; omega
 have e2 : wrap64 (s + p) = s + p := by rw [← wrap_eq64]; exact e1
 obtain ⟨E, hE⟩ : ∃ E, E = wdF (s + p) := ⟨_, rfl⟩
 have HW : Hid (∀ wx, Calls Tryz.prog 90 #[.int .i64 (s + p)] wx fun e w' => e = .returned (.tuple #[.int .i64 E.1, .int .i64 E.2]) ∧ w' = wx) := fun wx => by rw [hE]; exact wide_any _ wx
 rw [← hE]
 clear hE
 go_enter Tryz.func88, Tryz.ntmps88
 go_wp2_with fail
 refine (HW.out _).mono ?_
 rintro e wz ⟨rfl, hq⟩
 rw [hq]
 clear hq wz
 go_wp2_with fail
 refine bodyPost_ret (v := .tuple #[.int .i64 E.1, .int .i64 E.2]) (by simp [results, Tryz.results88, go_sem]) rfl ?_
 exact ⟨rfl, rfl⟩
theorem nm41_e {p q s : Int} (hs : ¬ s = 0) (hq : q = 0) (h1 : ¬ p < 0) (h3 : 128 < p) (w : World) :
  Calls Tryz.prog 88 #[.int .i64 41, .int .i64 p, .int .i64 q, .int .i64 s] w fun e w' => e = .returned (.tuple #[.int .i64 0, .int .i64 31]) ∧ w' = w := by
 have zs : (s == 0) = false := by simp [hs]
 have zq : (q == 0) = true := by simp [hq]
 have yq : (q != 0) = false := by simp [hq]
 clear hq
 go_enter Tryz.func88, Tryz.ntmps88
 go_wp2_with fail
 refine bodyPost_ret (v := .tuple #[.int .i64 0, .int .i64 31]) (by simp [results, Tryz.results88, go_sem]) rfl ?_
 exact ⟨rfl, rfl⟩
theorem nm41_f {p q s : Int} (hs : ¬ s = 0) (hq : q = 0) (h1 : ¬ p < 0) (h3 : ¬ 128 < p) (s0 : 0 ≤ s) (s1 : s ≤ 128) (w : World) :
  Calls Tryz.prog 88 #[.int .i64 41, .int .i64 p, .int .i64 q, .int .i64 s] w fun e w' => e = .returned (.tuple #[.int .i64 (wdF (s + p)).1, .int .i64 (wdF (s + p)).2]) ∧ w' = w := by
 have zs : (s == 0) = false := by simp [hs]
 have zq : (q == 0) = true := by simp [hq]
 have yq : (q != 0) = false := by simp [hq]
 clear hq
 have e1 : IntKind.i64.wrap (s + p) = s + p := by rw [IntKind.wrap_i64]; omega
 have e2 : wrap64 (s + p) = s + p := by rw [← wrap_eq64]; exact e1
 obtain ⟨E, hE⟩ : ∃ E, E = wdF (s + p) := ⟨_, rfl⟩
 have HW : Hid (∀ wx, Calls Tryz.prog 90 #[.int .i64 (s + p)] wx fun e w' => e = .returned (.tuple #[.int .i64 E.1, .int .i64 E.2]) ∧ w' = wx) := fun wx => by rw [hE]; exact wide_any _ wx
 rw [← hE]
 clear hE
 go_enter Tryz.func88, Tryz.ntmps88
 go_wp2_with fail
 refine (HW.out _).mono ?_
 rintro e wz ⟨rfl, hq⟩
 rw [hq]
 clear hq wz
 go_wp2_with fail
 refine bodyPost_ret (v := .tuple #[.int .i64 E.1, .int .i64 E.2]) (by simp [results, Tryz.results88, go_sem]) rfl ?_
 exact ⟨rfl, rfl⟩
theorem nm44_e {p q s : Int} (hs : ¬ s = 0) (hq : q = 0) (h1 : ¬ p < 0) (h2 : ¬ p < 1) (h3 : 128 < p) (w : World) :
  Calls Tryz.prog 88 #[.int .i64 44, .int .i64 p, .int .i64 q, .int .i64 s] w fun e w' => e = .returned (.tuple #[.int .i64 0, .int .i64 31]) ∧ w' = w := by
 have zs : (s == 0) = false := by simp [hs]
 have zq : (q == 0) = true := by simp [hq]
 have yq : (q != 0) = false := by simp [hq]
 clear hq
 go_enter Tryz.func88, Tryz.ntmps88
 go_wp2_with fail
 refine bodyPost_ret (v := .tuple #[.int .i64 0, .int .i64 31]) (by simp [results, Tryz.results88, go_sem]) rfl ?_
 exact ⟨rfl, rfl⟩
theorem nm44_f {p q s : Int} (hs : ¬ s = 0) (hq : q = 0) (h1 : ¬ p < 0) (h2 : ¬ p < 1) (h3 : ¬ 128 < p) (s0 : 0 ≤ s) (s1 : s ≤ 128) (w : World) :
  Calls Tryz.prog 88 #[.int .i64 44, .int .i64 p, .int .i64 q, .int .i64 s] w fun e w' => e = .returned (.tuple #[.int .i64 (wdF (s * p)).1, .int .i64 (wdF (s * p)).2]) ∧ w' = w := by
 have zs : (s == 0) = false := by simp [hs]
 have zq : (q == 0) = true := by simp [hq]
 have yq : (q != 0) = false := by simp [hq]
 clear hq
 have e1 : IntKind.i64.wrap (s * p) = s * p := by rw [IntKind.wrap_i64]; have hh1 : s * p ≤ 128 * 128 := Int.mul_le_mul s1 (by omega) (by omega) (by decide); have hh2 : 0 ≤ s * p := Int.mul_nonneg s0 (by omega); omega
 have e2 : wrap64 (s * p) = s * p := by rw [← wrap_eq64]; exact e1
 obtain ⟨E, hE⟩ : ∃ E, E = wdF (s * p) := ⟨_, rfl⟩
 have HW : Hid (∀ wx, Calls Tryz.prog 90 #[.int .i64 (s * p)] wx fun e w' => e = .returned (.tuple #[.int .i64 E.1, .int .i64 E.2]) ∧ w' = wx) := fun wx => by rw [hE]; exact wide_any _ wx
 rw [← hE]
 clear hE
 go_enter Tryz.func88, Tryz.ntmps88
 go_wp2_with fail
 refine (HW.out _).mono ?_
 rintro e wz ⟨rfl, hq⟩
 rw [hq]
 clear hq wz
 go_wp2_with fail
 refine bodyPost_ret (v := .tuple #[.int .i64 E.1, .int .i64 E.2]) (by simp [results, Tryz.results88, go_sem]) rfl ?_
 exact ⟨rfl, rfl⟩
theorem numbered_any {op p q s : Int} (ho : 39 ≤ op) (ho2 : op ≤ 44) (s0 : 0 ≤ s) (s1 : s ≤ 128) (w : World) :
  Calls Tryz.prog 88 #[.int .i64 op, .int .i64 p, .int .i64 q, .int .i64 s] w fun e w' => e = .returned (.tuple #[.int .i64 (nmF op p q s).1, .int .i64 (nmF op p q s).2]) ∧ w' = w := by
 have hx : op = 39 ∨ op = 40 ∨ op = 41 ∨ op = 42 ∨ op = 43 ∨ op = 44 := by omega
 by_cases hs : s = 0
 ·have e : nmF op p q s = (0, 30) := by unfold nmF; rw [if_pos hs]
  rw [e]
  rcases hx with rfl | rfl | rfl | rfl | rfl | rfl
  ·exact nm0_39 hs w
  ·exact nm0_40 hs w
  ·exact nm0_41 hs w
  ·exact nm0_42 hs w
  ·exact nm0_43 hs w
  ·exact nm0_44 hs w
 ·rcases hx with rfl | rfl | rfl | rfl | rfl | rfl
  ·by_cases h1 : q < 0
   ·rw [show nmF 39 p q s = (0, 30) by simp [nmF, hs, nft]; omega]; exact nm39_a hs h1 w
   ·by_cases h2 : p < q
    ·rw [show nmF 39 p q s = (0, 30) by simp [nmF, hs, nft]; omega]; exact nm39_b hs h1 h2 w
    ·by_cases h3 : s ≤ p
     ·rw [show nmF 39 p q s = (0, 30) by simp [nmF, hs, nft]; omega]; exact nm39_c hs h1 h2 h3 w
     ·rw [show nmF 39 p q s = (p - q + 1, 0) by simp [nmF, hs, nft]; omega]; exact nm39_d hs h1 h2 h3 s1 w
  ·by_cases hq : q = 0
   ·by_cases h1 : p < 0
    ·rw [show nmF 40 p q s = (0, 30) by simp [nmF, hs, nft]; omega]; exact nm40_b hs hq h1 w
    ·by_cases h3 : 128 < p
     ·rw [show nmF 40 p q s = (0, 31) by simp [nmF, hs, nft, h3, hq]; omega]; exact nm40_e hs hq h1 h3 w
     ·rw [show nmF 40 p q s = wdF (s + p) by simp [nmF, hs, nft, h3, hq]; omega]; exact nm40_f hs hq h1 h3 s0 s1 w
   ·rw [show nmF 40 p q s = (0, 30) by simp [nmF, hs, nft, hq]]; exact nm40_a hs hq w
  ·by_cases hq : q = 0
   ·by_cases h1 : p < 0
    ·rw [show nmF 41 p q s = (0, 30) by simp [nmF, hs, nft]; omega]; exact nm41_b hs hq h1 w
    ·by_cases h3 : 128 < p
     ·rw [show nmF 41 p q s = (0, 31) by simp [nmF, hs, nft, h3, hq]; omega]; exact nm41_e hs hq h1 h3 w
     ·rw [show nmF 41 p q s = wdF (s + p) by simp [nmF, hs, nft, h3, hq]; omega]; exact nm41_f hs hq h1 h3 s0 s1 w
   ·rw [show nmF 41 p q s = (0, 30) by simp [nmF, hs, nft, hq]]; exact nm41_a hs hq w
  ·by_cases hq : q = 0
   ·by_cases h1 : p < 0
    ·rw [show nmF 42 p q s = (0, 30) by simp [nmF, hs, nft]; omega]; exact nm42_b hs hq h1 w
    ·rw [show nmF 42 p q s = (s, 0) by simp [nmF, hs, nft, hq]; omega]; exact nm42_d hs hq h1 w
   ·rw [show nmF 42 p q s = (0, 30) by simp [nmF, hs, nft, hq]]; exact nm42_a hs hq w
  ·by_cases hq : q = 0
   ·by_cases h1 : p < 0
    ·rw [show nmF 43 p q s = (0, 30) by simp [nmF, hs, nft]; omega]; exact nm43_b hs hq h1 w
    ·rw [show nmF 43 p q s = (s, 0) by simp [nmF, hs, nft, hq]; omega]; exact nm43_d hs hq h1 w
   ·rw [show nmF 43 p q s = (0, 30) by simp [nmF, hs, nft, hq]]; exact nm43_a hs hq w
  ·by_cases hq : q = 0
   ·by_cases h1 : p < 0
    ·rw [show nmF 44 p q s = (0, 30) by simp [nmF, hs, nft]; omega]; exact nm44_b hs hq h1 w
    ·by_cases h2 : p < 1
     ·rw [show nmF 44 p q s = (0, 30) by simp [nmF, hs, nft]; omega]; exact nm44_c hs hq h1 h2 w
     ·by_cases h3 : 128 < p
      ·rw [show nmF 44 p q s = (0, 31) by simp [nmF, hs, nft, h3, hq]; omega]; exact nm44_e hs hq h1 h2 h3 w
      ·rw [show nmF 44 p q s = wdF (s * p) by simp [nmF, hs, nft, h3, hq]; omega]; exact nm44_f hs hq h1 h2 h3 s0 s1 w
   ·rw [show nmF 44 p q s = (0, 30) by simp [nmF, hs, nft, hq]]; exact nm44_a hs hq w
end Go.Proofs.YtejljdbkocnhlaaGreat
