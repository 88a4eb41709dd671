/- Contracts: repetition; operators on four bits; texts that the examples name; refusals that they name. -/
import Derived.Test.YtnflphhckgeneaaGreatK
import Derived.Test.YtnflphhckgeneaaGreatH
import Derived.Test.YtnflphhckgeneaaGreatMg19
import Derived.Deep.CutRange
import Derived.Test.YtnflphhckgeneaaGreatMg25
namespace Go.Proofs.YtnflphhckgeneaaGreat
set_option maxHeartbeats 12800000
set_option maxRecDepth 100000
open Go.RowKit
set_option linter.unusedSimpArgs false
set_option linter.unusedVariables false

/-- The width of k words of W bits. -/
def wk (W k : Nat) : Nat := W * k
/-- k words n of V bits above one another. -/
def rep (V n : Nat) : Nat → Nat
  | 0 => 0
  | k + 1 => cat (rep V n k) V n
theorem rep_lt {V n : Nat} (h : n < 2 ^ V) : ∀ k, rep V n k < 2 ^ (V * k)
  | 0 => by simp [rep]
  | k + 1 => by
    have h1 := cat_lt (rep_lt h k) h
    rw [show V * k + V = V * (k + 1) from (Nat.mul_succ V k).symm] at h1
    exact h1

theorem repeat_any {W n k : Nat} {WW lo hi kk : Int} (hw : Wd WW lo hi W n) (hk : kk = k) (hk1 : 1 ≤ k) (hk2 : k ≤ 128 / W) (w : World) :
    Rt 85 #[.agg #[.int .i64 WW, .int .u64 lo, .int .u64 hi], .int .i64 kk] w (.tuple #[.agg #[.int .i64 ((wk W k : Nat) : Int), .int .u64 (LO (rep W n k)), .int .u64 (HI (rep W n k))], .int .i64 0]) := by
  obtain ⟨h1, h2, hn, rfl, rfl, rfl⟩ := hw
  subst hk
  have hWk : W * k ≤ 128 := Nat.le_trans (Nat.mul_le_mul_left W hk2) (Nat.mul_div_le 128 W)
  have hkl : k ≤ 128 := Nat.le_trans hk2 (Nat.div_le_self _ _)
  have hq : ¬ ((128 : Int) / (W : Int) < (k : Int)) := by
    rw [show ((128 : Int) / (W : Int)) = ((128 / W : Nat) : Int) from rfl]; omega
  go_enter Tryz.func85, Tryz.ntmps85
  go_wp2_with fail
  refine (isWord_any (Wd.mk' h1 h2 hn) _).mono ?_
  rintro e w1 ⟨rfl, hb1⟩
  have hb1' := below_step (w := w) (by go_grown) hb1
  have hs1 := hb1'.size
  have KF1 : W3 w1 w.heap.size W n <| F3 w1 w.heap.size <| S3 w1 (w.heap.size + 1) <| F3 w1 (w.heap.size + 1) <| True := (by refine k3 hb1 ?_ ?_ ?_ <| f3 hb1 ?_ ?_ <| s3 hb1 ?_ ?_ ?_ <| f3 hb1 ?_ ?_ <| trivial <;> (first | (simp [go_sem]; done))); have KF1z0 := zT KF1; have KF1z1 := zT KF1.2.2.2.2
  clear hb1
  go_wp2_with fail
  go_loopw [23] (fun i wr => ∃ j : Nat, j + 1 ≤ k ∧ i = .int .i64 j ∧ (wr.cell? ⟨w.heap.size, 0, none⟩ = some (.int .i64 W) ∧ wr.cell? ⟨w.heap.size, 1, none⟩ = some (.int .u64 (LO n)) ∧ wr.cell? ⟨w.heap.size, 2, none⟩ = some (.int .u64 (HI n))) ∧ (wr.cell? ⟨w.heap.size + 1, 0, none⟩ = some (cv wr ⟨w.heap.size + 1, 0, none⟩) ∧ wr.cell? ⟨w.heap.size + 1, 1, none⟩ = some (cv wr ⟨w.heap.size + 1, 1, none⟩) ∧ wr.cell? ⟨w.heap.size + 1, 2, none⟩ = some (cv wr ⟨w.heap.size + 1, 2, none⟩)) ∧ (wr.cell? ⟨w1.heap.size, 0, none⟩ = some (.int .i64 ((wk W (j + 1) : Nat) : Int)) ∧ wr.cell? ⟨w1.heap.size, 1, none⟩ = some (.int .u64 (LO (rep W n (j + 1)))) ∧ wr.cell? ⟨w1.heap.size, 2, none⟩ = some (.int .u64 (HI (rep W n (j + 1))))) ∧ (∀ o, wr.frozen? ⟨w.heap.size + 1, o, none⟩ = false) ∧ (∀ o, wr.frozen? ⟨w1.heap.size, o, none⟩ = false) ∧ Below w.heap.size w wr) (fun i _ => k - (intOf i).toNat)
  case atStart =>
    have e1 : rep W n 1 = n := by simp [rep, cat]
    have e2 : wk W 1 = W := Nat.mul_one W
    refine ⟨0, by omega, rfl, ⟨?_, ?_, ?_⟩, ⟨?_, ?_, ?_⟩, ⟨?_, ?_, ?_⟩, ?_, ?_, ?_⟩
    all_goals first | (simp [go_sem, KF1, KF1z0, KF1z1, e1, e2]; done) | (refine cv_some ?_; simp [go_sem, KF1, KF1z0, KF1z1]; done) | (intro j; simp [go_sem, KF1, KF1z0, KF1z1, frozen?_alloc_cells]; done) | go_grown
  case round =>
    obtain ⟨j, hj, rfl, ha, hr, hc, hf1, hf2, hbl⟩ := hrel
    have KF0 := And.intro ha (And.intro hr (And.intro hc (And.intro hf1 hf2)))
    clear ha hr hc hf1 hf2
    have hlt0 := rep_lt hn (j + 1)
    have hWj : W * (j + 1) + W ≤ 128 ∨ ¬ (j + 1 < k) := by
      by_cases h : j + 1 < k
      · left
        have h3 : W * (j + 1 + 1) ≤ W * k := Nat.mul_le_mul_left W h
        rw [Nat.mul_succ] at h3
        omega
      · right; exact h
    by_cases hlt : j + 1 < k
    · have h5 : W * (j + 1) + W ≤ 128 := by rcases hWj with h | h <;> omega
      have h6 : 1 ≤ W * (j + 1) := Nat.mul_pos h1 (by omega)
      have h7 : W * (j + 1) ≤ 128 := by omega
      have HR : Hid (cat (rep W n (j + 1)) W n = rep W n (j + 2)) := rfl
      have HW : Hid (((wk W (j + 1) : Nat) : Int) + W = ((wk W (j + 2) : Nat) : Int)) := by unfold Hid wk; rw [Nat.mul_succ W (j + 1)]; omega
      have h6 : 1 ≤ wk W (j + 1) := h6
      have h7 : wk W (j + 1) ≤ 128 := h7
      have h5 : wk W (j + 1) + W ≤ 128 := h5
      have hlt0 : rep W n (j + 1) < 2 ^ wk W (j + 1) := hlt0
      clear hWj
      generalize rep W n (j + 1) = A at *
      generalize wk W (j + 1) = V at *
      go_wp2_with fail
      refine (above_any (W := V) (V := W) (Wd.mk' h6 h7 hlt0) (Wd.mk' h1 h2 hn) h5 _).mono ?_
      rintro e w2 ⟨rfl, hb2⟩
      have hb2' := below_step (w := w) (by go_grown) hb2
      have hs2 := hb2'.size
      have KF2 : W3 w2 w.heap.size W n <| S3 w2 (w.heap.size + 1) <| F3 w2 (w.heap.size + 1) <| W3 w2 w1.heap.size V A <| F3 w2 w1.heap.size <| True := (by refine k3 hb2 ?_ ?_ ?_ <| s3 hb2 ?_ ?_ ?_ <| f3 hb2 ?_ ?_ <| k3 hb2 ?_ ?_ ?_ <| f3 hb2 ?_ ?_ <| trivial <;> (first | (simp [go_sem]; done) | (simp [go_sem, KF0]; done) | (simp [go_sem, KF0, World.cell?_alloc_some, frozen?_alloc_cells]; done))); have KF2z0 := zT KF2; have KF2z1 := zT KF2.2.2.2; have KF2z2 := zT KF2.2.2.2.2.2.2.2
      clear hb2 KF0
      go_wp2_with fail
      have KFE := And.intro KF2 (And.intro HR.out HW.out)
      refine ⟨⟨j + 1, by omega, by go_num, ⟨?_, ?_, ?_⟩, ⟨?_, ?_, ?_⟩, ⟨?_, ?_, ?_⟩, ?_, ?_, ?_⟩, by simp [intOf]; omega⟩
      all_goals first | (simp [go_sem, KFE]; done) | (refine cv_some ?_; simp [go_sem, KFE]; done) | (intro j; simp [go_sem, KFE]; done) | go_grown
    · obtain rfl : j + 1 = k := by omega
      have hlt2 : ¬ ((j : Int) < (j : Int) + 1 - 1) := by omega
      go_wp2_with fail
      refine bodyPost_ret (v := .tuple #[.agg #[.int .i64 ((wk W (j + 1) : Nat) : Int), .int .u64 (LO (rep W n (j + 1))), .int .u64 (HI (rep W n (j + 1)))], .int .i64 0]) (by simp [results, Tryz.results85, go_sem, KF0]) rfl ?_
      exact ⟨rfl, by go_grown⟩


/-- A right word. -/
def RW (A : Int) (N : Nat) : Prop := 1 ≤ A ∧ A ≤ 128 ∧ N < 2 ^ A.toNat

theorem bs_cells {w : World} {base g W n : Nat} (h : Bs w base (.slice (some ⟨g, 0, none⟩) W W) (bl W n)) : ∀ j, j < W → w.cell? ⟨g, 0 + j, none⟩ = some (.bool (n.testBit j)) := fun j hj => by
  rw [Nat.zero_add]; exact Bs.cell h (bl_len W n).symm (bl_get hj)

theorem refright_out {A : Int} {N : Nat} (h : A < 0 ∨ 128 < A) (w : World) :
    Rt 30 #[.agg #[.int .i64 A, .int .u64 (LO (N)), .int .u64 (HI (N))]] w (.bool false) := by
  by_cases h0 : A < 0
  · go_enter Tryz.func30, Tryz.ntmps30
    go_wp2_with fail
    go_ret
    exact ⟨rfl, by go_grown⟩
  · have h1 : 128 < A := by omega
    go_enter Tryz.func30, Tryz.ntmps30
    go_wp2_with fail
    go_ret
    exact ⟨rfl, by go_grown⟩

theorem refright_0 {N : Nat} (w : World) :
    Rt 30 #[.agg #[.int .i64 0, .int .u64 (LO (N)), .int .u64 (HI (N))]] w (.bool (decide (LO N ≤ 1) && (HI N == 0))) := by
  by_cases h0 : LO N ≤ 1
  · by_cases h1 : HI N = 0
    · go_enter Tryz.func30, Tryz.ntmps30
      go_wp2_with fail
      go_ret
      exact ⟨by simp [h0, h1], by go_grown⟩
    · go_enter Tryz.func30, Tryz.ntmps30
      go_wp2_with fail
      go_ret
      exact ⟨by simp [h0, h1], by go_grown⟩
  · have hd : decide (LO N ≤ 1) = false := by simp; omega
    have HE : Hid ((decide (LO N ≤ 1) && (HI N == 0)) = false) := by unfold Hid; rw [hd]; rfl
    rw [HE.out]
    clear h0
    go_enter Tryz.func30, Tryz.ntmps30
    go_wp2_with fail
    go_ret
    exact ⟨rfl, by go_grown⟩

theorem refright_w {W N r : Nat} {c : Bool} (h1 : 1 ≤ W) (h2 : W ≤ 128) (hN : N < 2 ^ 128) (hr : N % 2 ^ W = r) (hc : eqB r N = c) (w : World) :
    Rt 30 #[.agg #[.int .i64 W, .int .u64 (LO (N)), .int .u64 (HI (N))]] w (.bool c) := by
  have hd : decide ((W : Int) < 0) = false := by simp only [decide_eq_false_iff_not]; omega
  have hd2 : decide ((128 : Int) < W) = false := by simp only [decide_eq_false_iff_not]; omega
  have hd3 : ((W : Int) == 0) = false := by simp; omega
  have HW : Hid (∀ (g : Nat) (wx : World), (∀ j, j < W → wx.cell? ⟨g, 0 + j, none⟩ = some (.bool (N.testBit j))) → g < wx.heap.size → Rt 49 #[.slice (some ⟨g, 0, none⟩) W W] wx (.agg #[.int .i64 W, .int .u64 (LO (r)), .int .u64 (HI (r))])) := fun g wx hx hg => by rw [← hr]; exact word_at h2 hN wx hx hg
  clear hr
  have hqe := eq_w
  go_enter Tryz.func30, Tryz.ntmps30
  go_wp2_with fail
  go_region_held3 (fun x => x.cell? ⟨w.heap.size, 0, none⟩ = some (.int .i64 W) ∧ x.cell? ⟨w.heap.size, 1, none⟩ = some (.int .u64 (LO (N))) ∧ x.cell? ⟨w.heap.size, 2, none⟩ = some (.int .u64 (HI (N))) ∧ Below w.heap.size w x)
    ((refine ⟨?_, ?_, ?_, ?_⟩ <;> first | (simp [go_sem]; done) | (refine cv_some ?_; simp [go_sem]; done) | (simp [go_sem, KFr, KFrz0]; done) | (refine cv_some ?_; simp [go_sem, KFr, KFrz0]; done) | (refine put_below ?_ ?_ <;> first | assumption | omega) | (have hH := ‹_ ∧ _ ∧ _ ∧ _›; exact put_below hH.2.2.2 (by omega)) | go_grown))
    ((first | (go_at_call 50; refine (bits_own h2 hN rfl rfl rfl _).mono ?_; rintro e wq ⟨g, rfl, hB, hb⟩; have hb' := below_step (w := w) (by go_grown) hb; have hs := hb'.size; have KFr : wq.cell? ⟨w.heap.size, 0, none⟩ = some (.int .i64 W) ∧ wq.cell? ⟨w.heap.size, 1, none⟩ = some (.int .u64 (LO (N))) ∧ wq.cell? ⟨w.heap.size, 2, none⟩ = some (.int .u64 (HI (N))) := (by refine ⟨keep_cell hb ?_, keep_cell hb ?_, keep_cell hb ?_⟩ <;> (first | (simp [go_sem]; done) | (simp [go_sem, KFr]; done) | (simp [go_sem, KFr, World.cell?_alloc_some, frozen?_alloc_cells]; done))); have KFrz0 : w.heap.size < wq.heap.size := World.block_lt_of_cell? _ _ KFr.1; have HBs : Hid (Bs wq _ (.slice (some ⟨g, 0, none⟩) W W) (bl W N)) := hB; clear hB; clear hb) | (go_at_call 49; refine (HW.out _ _ (bs_cells HBs.out) (Bs.lt HBs.out).2).mono ?_; rintro e wq ⟨rfl, hb⟩; have hb' := below_step (w := w) (by go_grown) hb; have hs := hb'.size; have KFr : wq.cell? ⟨w.heap.size, 0, none⟩ = some (.int .i64 W) ∧ wq.cell? ⟨w.heap.size, 1, none⟩ = some (.int .u64 (LO (N))) ∧ wq.cell? ⟨w.heap.size, 2, none⟩ = some (.int .u64 (HI (N))) := (by refine ⟨keep_cell hb ?_, keep_cell hb ?_, keep_cell hb ?_⟩ <;> (first | (simp [go_sem]; done) | (simp [go_sem, KFr]; done) | (simp [go_sem, KFr, World.cell?_alloc_some, frozen?_alloc_cells]; done))); have KFrz0 : w.heap.size < wq.heap.size := World.block_lt_of_cell? _ _ KFr.1; clear hb)))
  obtain ⟨-, -, -, hBq⟩ := ‹_ ∧ _ ∧ _ ∧ _›
  go_wp2_with fail
  go_ret
  exact ⟨rfl, by go_grown⟩

theorem refword_yes {W n : Nat} (h1 : 1 ≤ W) (h2 : W ≤ 128) (hn : n < 2 ^ W) (w : World) :
    Rt 95 #[.agg #[.int .i64 W, .int .u64 (LO (n)), .int .u64 (HI (n))]] w (.bool true) := by
  have HR : Hid (∀ wx, Rt 30 #[.agg #[.int .i64 W, .int .u64 (LO (n)), .int .u64 (HI (n))]] wx (.bool true)) := fun wx => refright_w h1 h2 (Nat.lt_of_lt_of_le hn (pow_le_128 h2)) (Nat.mod_eq_of_lt hn) (eqB_yes rfl) wx
  have hd3 : decide (0 < W) = true := by simp; omega
  go_enter Tryz.func95, Tryz.ntmps95
  go_wp2_with fail
  refine (HR.out _).mono ?_
  rintro e w1 ⟨rfl, hb1⟩
  have hb1' := below_step (w := w) (by go_grown) hb1
  have hs1 := hb1'.size
  have hz1_0 : w.heap.size < w1.heap.size := by have := hb1.size; (try simp at this); omega
  obtain ⟨hc1, hf1⟩ := bcell hb1
  go_wp2_with fail
  go_ret
  exact ⟨rfl, by go_grown⟩


theorem word_rd {w : World} {g c W n : Nat} (h : Rd w g W (bl W n)) (hW : W ≤ 128) (hn : n < 2 ^ W) :
    Rt 49 #[.slice (some ⟨g, 0, none⟩) W c] w (.agg #[.int .i64 W, .int .u64 (LO (n)), .int .u64 (HI (n))]) := by
  have hw := word_at (W := W) (n := n) (g := g) (off := 0) (cap := c) hW (Nat.lt_of_lt_of_le hn (pow_le_128 hW)) w (fun j hj => by rw [Nat.zero_add]; exact Rd.bit h hj) h.2.1
  rw [Nat.mod_eq_of_lt hn] at hw
  exact hw

theorem reftwo_word {W n m N : Nat} {op : Int} (h1 : 1 ≤ W) (h2 : W ≤ 128) (hn : n < 2 ^ W) (hm : m < 2 ^ W) (hN : N < 2 ^ W) (HW : Hid (∀ (g g' c c' : Nat) (wx : World), Rd wx g W (bl W n) → Rd wx g' W (bl W m) → Calls Tryz.prog 99 #[.int .i64 op, .slice (some ⟨g, 0, none⟩) W c, .slice (some ⟨g', 0, none⟩) W c'] wx (Tw W N wx))) (w : World) :
    Rt 59 #[.int .i64 op, .agg #[.int .i64 W, .int .u64 (LO (n)), .int .u64 (HI (n))], .agg #[.int .i64 W, .int .u64 (LO (m)), .int .u64 (HI (m))]] w (.tuple #[.agg #[.int .i64 W, .int .u64 (LO (N)), .int .u64 (HI (N))], .int .i64 0]) := by
  have hn8 : n < 2 ^ 128 := Nat.lt_of_lt_of_le hn (pow_le_128 h2)
  have hm8 : m < 2 ^ 128 := Nat.lt_of_lt_of_le hm (pow_le_128 h2)
  go_enter Tryz.func59, Tryz.ntmps59
  go_wp2_with fail
  refine (refword_yes h1 h2 hn _).mono ?_
  rintro e w1 ⟨rfl, hb1⟩
  have hb1' := below_step (w := w) (by go_grown) hb1
  have hs1 := hb1'.size
  have KF1 : W3 w1 w.heap.size W n <| F3 w1 w.heap.size <| W3 w1 (w.heap.size + 1) W m <| F3 w1 (w.heap.size + 1) <| S3 w1 (w.heap.size + 1 + 1) <| F3 w1 (w.heap.size + 1 + 1) <| True := (by refine k3 hb1 ?_ ?_ ?_ <| f3 hb1 ?_ ?_ <| k3 hb1 ?_ ?_ ?_ <| f3 hb1 ?_ ?_ <| s3 hb1 ?_ ?_ ?_ <| f3 hb1 ?_ ?_ <| trivial <;> (first | (simp [go_sem]; done))); have KF1z0 := zT KF1; have KF1z1 := zT KF1.2.2.2.2; have KF1z2 := zT KF1.2.2.2.2.2.2.2.2
  clear hb1
  go_wp2_with fail
  refine (refword_yes h1 h2 hm _).mono ?_
  rintro e w2 ⟨rfl, hb2⟩
  have hb2' := below_step (w := w) (by go_grown) hb2
  have hs2 := hb2'.size
  have KF2 : W3 w2 w.heap.size W n <| F3 w2 w.heap.size <| W3 w2 (w.heap.size + 1) W m <| F3 w2 (w.heap.size + 1) <| S3 w2 (w.heap.size + 1 + 1) <| F3 w2 (w.heap.size + 1 + 1) <| True := (by refine k3 hb2 ?_ ?_ ?_ <| f3 hb2 ?_ ?_ <| k3 hb2 ?_ ?_ ?_ <| f3 hb2 ?_ ?_ <| s3 hb2 ?_ ?_ ?_ <| f3 hb2 ?_ ?_ <| trivial <;> (first | (simp [go_sem]; done) | (simp [go_sem, KF1]; done) | (simp [go_sem, KF1, World.cell?_alloc_some, frozen?_alloc_cells]; done))); have KF2z0 := zT KF2; have KF2z1 := zT KF2.2.2.2.2; have KF2z2 := zT KF2.2.2.2.2.2.2.2.2
  clear hb2 KF1
  go_upto_region 3 with fail
  go_cut [8, 9] (fun u v wx => ∃ gx gy : Nat, u = .slice (some ⟨gx, 0, none⟩) W W ∧ v = .slice (some ⟨gy, 0, none⟩) W W ∧ Rd wx gx W (bl W n) ∧ Rd wx gy W (bl W m) ∧ (wx.cell? ⟨w.heap.size, 0, none⟩ = some (.int .i64 W) ∧ wx.cell? ⟨w.heap.size, 1, none⟩ = some (.int .u64 (LO n)) ∧ wx.cell? ⟨w.heap.size, 2, none⟩ = some (.int .u64 (HI n)) ∧ (∀ o, wx.frozen? ⟨w.heap.size, o, none⟩ = false) ∧ wx.cell? ⟨w.heap.size + 1, 0, none⟩ = some (.int .i64 W) ∧ wx.cell? ⟨w.heap.size + 1, 1, none⟩ = some (.int .u64 (LO m)) ∧ wx.cell? ⟨w.heap.size + 1, 2, none⟩ = some (.int .u64 (HI m)) ∧ (∀ o, wx.frozen? ⟨w.heap.size + 1, o, none⟩ = false) ∧ wx.cell? ⟨w.heap.size + 1 + 1, 0, none⟩ = some (cv wx ⟨w.heap.size + 1 + 1, 0, none⟩) ∧ wx.cell? ⟨w.heap.size + 1 + 1, 1, none⟩ = some (cv wx ⟨w.heap.size + 1 + 1, 1, none⟩) ∧ wx.cell? ⟨w.heap.size + 1 + 1, 2, none⟩ = some (cv wx ⟨w.heap.size + 1 + 1, 2, none⟩) ∧ (∀ o, wx.frozen? ⟨w.heap.size + 1 + 1, o, none⟩ = false)) ∧ Below w.heap.size w wx)
  case first =>
    go_wp2_with fail
    go_region_with ((first | (go_at_call_of 50 (LO n); refine (bits_own (W := W) (n := n) h2 hn8 rfl rfl rfl _).mono ?_; rintro e wq ⟨gx, rfl, hBx, hb⟩; have hb' := below_step (w := w) (by go_grown) hb; have hs := hb'.size; have KFr : W3 wq w.heap.size W n <| F3 wq w.heap.size <| W3 wq (w.heap.size + 1) W m <| F3 wq (w.heap.size + 1) <| S3 wq (w.heap.size + 1 + 1) <| (∀ o, wq.frozen? ⟨w.heap.size + 1 + 1, o, none⟩ = false) := (by refine k3 hb ?_ ?_ ?_ <| f3 hb ?_ ?_ <| k3 hb ?_ ?_ ?_ <| f3 hb ?_ ?_ <| s3 hb ?_ ?_ ?_ <| keep_frozen2 hb ?_ ?_ <;> (first | (simp [go_sem]; done) | (simp [go_sem, KFr]; done) | (simp [go_sem, KF2]; done) | (simp [go_sem, KFr, World.cell?_alloc_some]; done) | (simp [go_sem, KF2, World.cell?_alloc_some]; done) | (simp [go_sem, KFr, frozen?_alloc_cells]; done) | (simp [go_sem, KF2, frozen?_alloc_cells]; done))); have KFrz0 : w.heap.size < wq.heap.size := World.block_lt_of_cell? _ _ KFr.1; have KFrz1 : w.heap.size + 1 < wq.heap.size := World.block_lt_of_cell? _ _ KFr.2.2.2.2.1; have KFrz2 : w.heap.size + 1 + 1 < wq.heap.size := World.block_lt_of_cell? _ _ KFr.2.2.2.2.2.2.2.2.1; have HX : Hid (Rd wq gx W (bl W n)) := Bs.rd hBx (bl_len W _).symm; (try replace HY : Hid (Rd wq _ W (bl W m)) := Rd.keep HY.out hb); clear hBx; clear hb) | (go_at_call_of 50 (LO m); refine (bits_own (W := W) (n := m) h2 hm8 rfl rfl rfl _).mono ?_; rintro e wq ⟨gy, rfl, hBy, hb⟩; have hb' := below_step (w := w) (by go_grown) hb; have hs := hb'.size; have KFr : W3 wq w.heap.size W n <| F3 wq w.heap.size <| W3 wq (w.heap.size + 1) W m <| F3 wq (w.heap.size + 1) <| S3 wq (w.heap.size + 1 + 1) <| (∀ o, wq.frozen? ⟨w.heap.size + 1 + 1, o, none⟩ = false) := (by refine k3 hb ?_ ?_ ?_ <| f3 hb ?_ ?_ <| k3 hb ?_ ?_ ?_ <| f3 hb ?_ ?_ <| s3 hb ?_ ?_ ?_ <| keep_frozen2 hb ?_ ?_ <;> (first | (simp [go_sem]; done) | (simp [go_sem, KFr]; done) | (simp [go_sem, KF2]; done) | (simp [go_sem, KFr, World.cell?_alloc_some]; done) | (simp [go_sem, KF2, World.cell?_alloc_some]; done) | (simp [go_sem, KFr, frozen?_alloc_cells]; done) | (simp [go_sem, KF2, frozen?_alloc_cells]; done))); have KFrz0 : w.heap.size < wq.heap.size := World.block_lt_of_cell? _ _ KFr.1; have KFrz1 : w.heap.size + 1 < wq.heap.size := World.block_lt_of_cell? _ _ KFr.2.2.2.2.1; have KFrz2 : w.heap.size + 1 + 1 < wq.heap.size := World.block_lt_of_cell? _ _ KFr.2.2.2.2.2.2.2.2.1; have HY : Hid (Rd wq gy W (bl W m)) := Bs.rd hBy (bl_len W _).symm; (try replace HX : Hid (Rd wq _ W (bl W n)) := Rd.keep HX.out hb); clear hBy; clear hb)))
    all_goals
      go_wp2_with fail
      go_meet
    all_goals first | exact ⟨_, _, rfl, rfl, HX.out, HY.out, KFr, hb'⟩ | exact ⟨_, _, rfl, rfl, HX.out, HY.out, KFr, hb'.drew⟩
  case rest =>
    obtain ⟨gx, gy, rfl, rfl, hX, hY, KFc, hbl⟩ := hcut
    have HX : Hid (Rd wc gx W (bl W n)) := hX
    have HY : Hid (Rd wc gy W (bl W m)) := hY
    have hbs := hbl.size
    clear hX hY KF2 hb1' hb2' hs1 hs2 KF1z0 KF1z1 KF1z2 KF2z0 KF2z1 KF2z2
    go_wp2_with fail
    refine (HW.out _ _ _ _ _ HX.out HY.out).mono ?_
    rintro e w3 ⟨r, cr, rfl, hR, hb3⟩
    have hb3' := below_step (w := w) (by go_grown) hb3
    have hs3 := hb3'.size
    have HR : Hid (Rd w3 r W (bl W N)) := hR; clear hR HX HY HW
    have KF3 : W3 w3 w.heap.size W n <| F3 w3 w.heap.size <| W3 w3 (w.heap.size + 1) W m <| F3 w3 (w.heap.size + 1) <| S3 w3 (w.heap.size + 1 + 1) <| F3 w3 (w.heap.size + 1 + 1) <| True := (by refine k3 hb3 ?_ ?_ ?_ <| f3 hb3 ?_ ?_ <| k3 hb3 ?_ ?_ ?_ <| f3 hb3 ?_ ?_ <| s3 hb3 ?_ ?_ ?_ <| f3 hb3 ?_ ?_ <| trivial <;> (first | (simp [go_sem]; done) | (simp [go_sem, KFc]; done) | (simp [go_sem, KFc, World.cell?_alloc_some, frozen?_alloc_cells]; done))); have KF3z0 := zT KF3; have KF3z1 := zT KF3.2.2.2.2; have KF3z2 := zT KF3.2.2.2.2.2.2.2.2
    clear hb3 KFc
    go_wp2_with fail
    refine (word_rd HR.out h2 hN).mono ?_
    rintro e w4 ⟨rfl, hb4⟩
    have hb4' := below_step (w := w) (by go_grown) hb4
    have hs4 := hb4'.size
    have KF4 : W3 w4 w.heap.size W n <| F3 w4 w.heap.size <| W3 w4 (w.heap.size + 1) W m <| F3 w4 (w.heap.size + 1) <| S3 w4 (w.heap.size + 1 + 1) <| F3 w4 (w.heap.size + 1 + 1) <| True := (by refine k3 hb4 ?_ ?_ ?_ <| f3 hb4 ?_ ?_ <| k3 hb4 ?_ ?_ ?_ <| f3 hb4 ?_ ?_ <| s3 hb4 ?_ ?_ ?_ <| f3 hb4 ?_ ?_ <| trivial <;> (first | (simp [go_sem]; done) | (simp [go_sem, KF3]; done) | (simp [go_sem, KF3, World.cell?_alloc_some, frozen?_alloc_cells]; done))); have KF4z0 := zT KF4; have KF4z1 := zT KF4.2.2.2.2; have KF4z2 := zT KF4.2.2.2.2.2.2.2.2
    clear hb4 KF3
    go_wp2_with fail
    refine bodyPost_ret (v := .tuple #[.agg #[.int .i64 W, .int .u64 (LO (N)), .int .u64 (HI (N))], .int .i64 0]) (by simp [results, Tryz.results59, go_sem, *]) rfl ?_
    exact ⟨rfl, by go_grown⟩
end Go.Proofs.YtnflphhckgeneaaGreat
