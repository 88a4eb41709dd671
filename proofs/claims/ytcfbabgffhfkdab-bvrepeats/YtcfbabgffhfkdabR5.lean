/- The walk of BvRepeats. -/
import Derived.Test.YtcfbabgffhfkdabQ1
import Derived.Test.YtcfbabgffhfkdabP0
import Derived.Test.YtcfbabgffhfkdabG
import Derived.Test.YtcfbabgffhfkdabM
namespace Go.Proofs.Ytcfbabgffhfkdab
open Go.RowKit
set_option linter.unusedSimpArgs false
set_option linter.unusedVariables false

set_option maxRecDepth 100000 in
set_option maxHeartbeats 1000000 in
theorem walk_repeats (a0 a1 a2 a3 : Int) (w0 : (Lit.int .i64 a0).wf = true) (w1 : (Lit.int .i64 a1).wf = true) (w2 : (Lit.int .u64 a2).wf = true) (w3 : (Lit.int .u64 a3).wf = true) (w : World) :
    Calls Try.prog 7 #[.int .i64 a0, .int .i64 a1, .int .u64 a2, .int .u64 a3] w fun e w' => e = .returned (.bool true) ∧ Below w.heap.size w w' := by
  obtain ⟨p0, p1⟩ := lit_i64 w0
  obtain ⟨q0, q1⟩ := lit_u64 w2
  obtain ⟨r0, r1⟩ := lit_u64 w3
  have HL := num_lo (hi := a3) q0 q1
  have HH := num_hi q0 q1 r0
  have HN := num_lt q0 q1 r0 r1
  have h1 : 1 ≤ wdt a0 := by unfold wdt; omega
  have h2 := wdt_le a0
  have hn : num a2 a3 % 2 ^ wdt a0 < 2 ^ wdt a0 := mod_lt_W _ _
  have HW : Hid (∀ wx, Calls Try.prog 9 #[.int .i64 a0, .int .u64 a2, .int .u64 a3] wx fun e w' => e = .returned (.agg #[.int .i64 ((wdt a0 : Nat) : Int), .int .u64 (LO (num a2 a3 % 2 ^ wdt a0)), .int .u64 (HI (num a2 a3 % 2 ^ wdt a0))]) ∧ Below wx.heap.size wx w') := fun wx => lawword_any HN HL HH p0 p1 wx
  clear HL HH HN q0 q1 r0 r1 w0 w2 w3 p0 p1
  generalize num a2 a3 % 2 ^ wdt a0 = n at *
  generalize wdt a0 = W at *
  obtain ⟨d, hd⟩ : ∃ d, d = 128 / W := ⟨_, rfl⟩
  have ed : ((128 : Int) / (W : Int)) = (d : Int) := by rw [hd]; rfl
  by_cases hs : a1 < 1 ∨ (d : Int) < a1
  · rcases hs with hs | hs
    · go_enter Try.func7, Try.ntmps7
      go_wp2_with fail
      refine (known_any _).mono ?_
      rintro e w1 ⟨rfl, hb1⟩
      have hb1' := below_step (w := w) (by go_grown) hb1
      have hs1 := hb1'.size
      go_wp2_with fail
      refine (HW.out _).mono ?_
      rintro e w2 ⟨rfl, hb2⟩
      have hb2' := below_step (w := w) (by go_grown) hb2
      have hs2 := hb2'.size
      go_wp2_with fail
      go_ret
      exact ⟨rfl, by go_grown⟩
    · obtain ⟨k, rfl⟩ : ∃ k : Nat, a1 = k := ⟨a1.toNat, by omega⟩
      have hq : (128 : Int) / (W : Int) < (k : Int) := by rw [ed]; omega
      have hx1 : ¬ ((k : Int) < 1) := by omega
      clear hs ed hd
      go_enter Try.func7, Try.ntmps7
      go_wp2_with fail
      refine (known_any _).mono ?_
      rintro e w1 ⟨rfl, hb1⟩
      have hb1' := below_step (w := w) (by go_grown) hb1
      have hs1 := hb1'.size
      go_wp2_with fail
      refine (HW.out _).mono ?_
      rintro e w2 ⟨rfl, hb2⟩
      have hb2' := below_step (w := w) (by go_grown) hb2
      have hs2 := hb2'.size
      go_wp2_with fail
      go_ret
      exact ⟨rfl, by go_grown⟩
  · obtain ⟨k, rfl⟩ : ∃ k : Nat, a1 = k := ⟨a1.toNat, by omega⟩
    have hk1 : 1 ≤ k := by omega
    have hk2 : k ≤ 128 / W := by omega
    have hq : ¬ ((128 : Int) / (W : Int) < (k : Int)) := by rw [ed]; omega
    have hx1 : ¬ ((k : Int) < 1) := by omega
    clear hs ed hd
    go_enter Try.func7, Try.ntmps7
    go_wp2_with fail
    refine (known_any _).mono ?_
    rintro e w1 ⟨rfl, hb1⟩
    have hb1' := below_step (w := w) (by go_grown) hb1
    have hs1 := hb1'.size
    go_wp2_with fail
    refine (HW.out _).mono ?_
    rintro e w2 ⟨rfl, hb2⟩
    have hb2' := below_step (w := w) (by go_grown) hb2
    have hs2 := hb2'.size
    go_wp2_with fail
    refine (repeat_any (Wd.mk' h1 h2 hn) rfl hk1 hk2 _).mono ?_
    rintro e w3 ⟨rfl, hb3⟩
    have hb3' := below_step (w := w) (by go_grown) hb3
    have hs3 := hb3'.size
    have KF3 : w3.cell? ⟨w2.heap.size, 0, none⟩ = some (.int .i64 W) ∧ w3.cell? ⟨w2.heap.size, 1, none⟩ = some (.int .u64 (LO (n))) ∧ w3.cell? ⟨w2.heap.size, 2, none⟩ = some (.int .u64 (HI (n))) ∧ (∀ o, w3.frozen? ⟨w2.heap.size, o, none⟩ = false) := ⟨keep_cell hb3 (by first | (simp [go_sem]; done)), keep_cell hb3 (by first | (simp [go_sem]; done)), keep_cell hb3 (by first | (simp [go_sem]; done)), keep_frozen2 hb3 (by first | (simp [go_sem]; done)) (by first | (simp [go_sem]; done))⟩; have KF3z0 : w2.heap.size < w3.heap.size := World.block_lt_of_cell? _ _ KF3.1
    clear hb3
    go_wp2_with fail
    go_loopw [13] (fun i wr => ∃ j : Nat, 1 ≤ j ∧ j ≤ k ∧ i = .int .i64 j ∧ (wr.cell? ⟨w2.heap.size, 0, none⟩ = some (.int .i64 W) ∧ wr.cell? ⟨w2.heap.size, 1, none⟩ = some (.int .u64 (LO n)) ∧ wr.cell? ⟨w2.heap.size, 2, none⟩ = some (.int .u64 (HI n))) ∧ (wr.cell? ⟨w3.heap.size, 0, none⟩ = some (.int .i64 ((wk W k : Nat) : Int)) ∧ wr.cell? ⟨w3.heap.size, 1, none⟩ = some (.int .u64 (LO (rep W n k))) ∧ wr.cell? ⟨w3.heap.size, 2, none⟩ = some (.int .u64 (HI (rep W n k)))) ∧ (wr.cell? ⟨w3.heap.size + 1, 0, none⟩ = some (.int .i64 ((wk W j : Nat) : Int)) ∧ wr.cell? ⟨w3.heap.size + 1, 1, none⟩ = some (.int .u64 (LO (rep W n j))) ∧ wr.cell? ⟨w3.heap.size + 1, 2, none⟩ = some (.int .u64 (HI (rep W n j)))) ∧ (∀ o, wr.frozen? ⟨w3.heap.size + 1, o, none⟩ = false) ∧ Below w.heap.size w wr) (fun i _ => k - (intOf i).toNat)
    case atStart =>
      have e1 : rep W n 1 = n := by simp [rep, cat]
      have e2 : wk W 1 = W := Nat.mul_one W
      refine ⟨1, Nat.le_refl 1, hk1, rfl, ⟨?_, ?_, ?_⟩, ⟨?_, ?_, ?_⟩, ⟨?_, ?_, ?_⟩, ?_, ?_⟩
      all_goals first | (simp [go_sem, KF3, KF3z0, e1, e2]; done) | (intro j; simp [go_sem, KF3, KF3z0, frozen?_alloc_cells]; done) | go_grown
    case round =>
      obtain ⟨j, hj1, hj, rfl, ha, hr, hc, hf1, hbl⟩ := hrel
      have KF0 := And.intro ha (And.intro hr (And.intro hc hf1))
      clear ha hr hc hf1
      have hbs := hbl.size
      have hkl : k ≤ 128 := Nat.le_trans hk2 (Nat.div_le_self _ _)
      have hjk : wk W j ≤ wk W k := Nat.mul_le_mul_left W hj
      have hkk : wk W k ≤ 128 := Nat.le_trans (Nat.mul_le_mul_left W hk2) (Nat.mul_div_le 128 W)
      have hj0 : 1 ≤ wk W j := Nat.mul_pos h1 hj1
      have hrj : rep W n j < 2 ^ wk W j := rep_lt hn j
      have hrk : rep W n k < 2 ^ wk W k := rep_lt hn k
      by_cases hlt : j < k
      · have h5 : wk W j + W ≤ 128 := by
          have h3 : W * (j + 1) ≤ W * k := Nat.mul_le_mul_left W hlt
          rw [Nat.mul_succ] at h3
          have : wk W j = W * j := rfl
          have : wk W k = W * k := rfl
          omega
        have HR : Hid (cat (rep W n j) W n = rep W n (j + 1)) := rfl
        have HX : Hid (((wk W j : Nat) : Int) + W = ((wk W (j + 1) : Nat) : Int)) := by unfold Hid wk; rw [Nat.mul_succ W j]; omega
        have h7 : wk W j ≤ 128 := by omega
        generalize rep W n j = A at *
        generalize wk W j = V at *
        generalize rep W n k = B at *
        generalize wk W k = K at *
        go_wp2_with fail
        refine (concat_any (W := V) (V := W) (Wd.mk' hj0 h7 hrj) (Wd.mk' h1 h2 hn) h5 _).mono ?_
        rintro e w4 ⟨rfl, hb4⟩
        have hb4' := below_step (w := w) (by go_grown) hb4
        have hs4 := hb4'.size
        have KF4 : w4.cell? ⟨w2.heap.size, 0, none⟩ = some (.int .i64 W) ∧ w4.cell? ⟨w2.heap.size, 1, none⟩ = some (.int .u64 (LO (n))) ∧ w4.cell? ⟨w2.heap.size, 2, none⟩ = some (.int .u64 (HI (n))) ∧ w4.cell? ⟨w3.heap.size, 0, none⟩ = some (.int .i64 K) ∧ w4.cell? ⟨w3.heap.size, 1, none⟩ = some (.int .u64 (LO (B))) ∧ w4.cell? ⟨w3.heap.size, 2, none⟩ = some (.int .u64 (HI (B))) ∧ w4.cell? ⟨w3.heap.size + 1, 0, none⟩ = some (.int .i64 V) ∧ w4.cell? ⟨w3.heap.size + 1, 1, none⟩ = some (.int .u64 (LO (A))) ∧ w4.cell? ⟨w3.heap.size + 1, 2, none⟩ = some (.int .u64 (HI (A))) ∧ (∀ o, w4.frozen? ⟨w3.heap.size + 1, o, none⟩ = false) := ⟨keep_cell hb4 (by first | (simp [go_sem]; done) | (simp [go_sem, KF0]; done) | (simp [go_sem, KF0, World.cell?_alloc_some]; done) | (simp [go_sem, KF0, frozen?_alloc_cells]; done)), keep_cell hb4 (by first | (simp [go_sem]; done) | (simp [go_sem, KF0]; done) | (simp [go_sem, KF0, World.cell?_alloc_some]; done) | (simp [go_sem, KF0, frozen?_alloc_cells]; done)), keep_cell hb4 (by first | (simp [go_sem]; done) | (simp [go_sem, KF0]; done) | (simp [go_sem, KF0, World.cell?_alloc_some]; done) | (simp [go_sem, KF0, frozen?_alloc_cells]; done)), keep_cell hb4 (by first | (simp [go_sem]; done) | (simp [go_sem, KF0]; done) | (simp [go_sem, KF0, World.cell?_alloc_some]; done) | (simp [go_sem, KF0, frozen?_alloc_cells]; done)), keep_cell hb4 (by first | (simp [go_sem]; done) | (simp [go_sem, KF0]; done) | (simp [go_sem, KF0, World.cell?_alloc_some]; done) | (simp [go_sem, KF0, frozen?_alloc_cells]; done)), keep_cell hb4 (by first | (simp [go_sem]; done) | (simp [go_sem, KF0]; done) | (simp [go_sem, KF0, World.cell?_alloc_some]; done) | (simp [go_sem, KF0, frozen?_alloc_cells]; done)), keep_cell hb4 (by first | (simp [go_sem]; done) | (simp [go_sem, KF0]; done) | (simp [go_sem, KF0, World.cell?_alloc_some]; done) | (simp [go_sem, KF0, frozen?_alloc_cells]; done)), keep_cell hb4 (by first | (simp [go_sem]; done) | (simp [go_sem, KF0]; done) | (simp [go_sem, KF0, World.cell?_alloc_some]; done) | (simp [go_sem, KF0, frozen?_alloc_cells]; done)), keep_cell hb4 (by first | (simp [go_sem]; done) | (simp [go_sem, KF0]; done) | (simp [go_sem, KF0, World.cell?_alloc_some]; done) | (simp [go_sem, KF0, frozen?_alloc_cells]; done)), keep_frozen2 hb4 (by first | (simp [go_sem]; done) | (simp [go_sem, KF0]; done) | (simp [go_sem, KF0, World.cell?_alloc_some]; done) | (simp [go_sem, KF0, frozen?_alloc_cells]; done)) (by first | (simp [go_sem]; done) | (simp [go_sem, KF0]; done) | (simp [go_sem, KF0, World.cell?_alloc_some]; done) | (simp [go_sem, KF0, frozen?_alloc_cells]; done))⟩; have KF4z0 : w2.heap.size < w4.heap.size := World.block_lt_of_cell? _ _ KF4.1; have KF4z1 : w3.heap.size < w4.heap.size := World.block_lt_of_cell? _ _ KF4.2.2.2.1; have KF4z2 : w3.heap.size + 1 < w4.heap.size := World.block_lt_of_cell? _ _ KF4.2.2.2.2.2.2.1
        clear hb4 KF0
        go_wp2_with fail
        have KFE := And.intro KF4 (And.intro HR.out HX.out)
        refine ⟨⟨j + 1, by omega, by omega, by go_num, ⟨?_, ?_, ?_⟩, ⟨?_, ?_, ?_⟩, ⟨?_, ?_, ?_⟩, ?_, ?_⟩, by simp [intOf]; omega⟩
        all_goals first | (simp [go_sem, KFE, KF4z0, KF4z1, KF4z2]; done) | (intro j; simp [go_sem, KFE, KF4z0, KF4z1, KF4z2, frozen?_alloc_cells]; done) | go_grown
      · obtain rfl : j = k := by omega
        have HR : Hid (rot (wk W j) (rep W n j) (wk W j - W % wk W j) = rep W n j) := rot_rep h1 hn hj1
        have h7 : wk W j ≤ 128 := by omega
        generalize rep W n j = B at *
        generalize wk W j = K at *
        go_wp2_with fail
        refine (rotate_right (W := K) (k := W) (Wd.mk' hj0 h7 hrj) rfl (by omega) _).mono ?_
        rintro e w5 ⟨rfl, hb5⟩
        have hb5' := below_step (w := w) (by go_grown) hb5
        have hs5 := hb5'.size
        have KF5 : w5.cell? ⟨w2.heap.size, 0, none⟩ = some (.int .i64 W) ∧ w5.cell? ⟨w2.heap.size, 1, none⟩ = some (.int .u64 (LO (n))) ∧ w5.cell? ⟨w2.heap.size, 2, none⟩ = some (.int .u64 (HI (n))) ∧ w5.cell? ⟨w3.heap.size, 0, none⟩ = some (.int .i64 K) ∧ w5.cell? ⟨w3.heap.size, 1, none⟩ = some (.int .u64 (LO (B))) ∧ w5.cell? ⟨w3.heap.size, 2, none⟩ = some (.int .u64 (HI (B))) ∧ w5.cell? ⟨w3.heap.size + 1, 0, none⟩ = some (.int .i64 K) ∧ w5.cell? ⟨w3.heap.size + 1, 1, none⟩ = some (.int .u64 (LO (B))) ∧ w5.cell? ⟨w3.heap.size + 1, 2, none⟩ = some (.int .u64 (HI (B))) := ⟨keep_cell hb5 (by first | (simp [go_sem]; done) | (simp [go_sem, KF0]; done) | (simp [go_sem, KF0, World.cell?_alloc_some]; done) | (simp [go_sem, KF0, frozen?_alloc_cells]; done)), keep_cell hb5 (by first | (simp [go_sem]; done) | (simp [go_sem, KF0]; done) | (simp [go_sem, KF0, World.cell?_alloc_some]; done) | (simp [go_sem, KF0, frozen?_alloc_cells]; done)), keep_cell hb5 (by first | (simp [go_sem]; done) | (simp [go_sem, KF0]; done) | (simp [go_sem, KF0, World.cell?_alloc_some]; done) | (simp [go_sem, KF0, frozen?_alloc_cells]; done)), keep_cell hb5 (by first | (simp [go_sem]; done) | (simp [go_sem, KF0]; done) | (simp [go_sem, KF0, World.cell?_alloc_some]; done) | (simp [go_sem, KF0, frozen?_alloc_cells]; done)), keep_cell hb5 (by first | (simp [go_sem]; done) | (simp [go_sem, KF0]; done) | (simp [go_sem, KF0, World.cell?_alloc_some]; done) | (simp [go_sem, KF0, frozen?_alloc_cells]; done)), keep_cell hb5 (by first | (simp [go_sem]; done) | (simp [go_sem, KF0]; done) | (simp [go_sem, KF0, World.cell?_alloc_some]; done) | (simp [go_sem, KF0, frozen?_alloc_cells]; done)), keep_cell hb5 (by first | (simp [go_sem]; done) | (simp [go_sem, KF0]; done) | (simp [go_sem, KF0, World.cell?_alloc_some]; done) | (simp [go_sem, KF0, frozen?_alloc_cells]; done)), keep_cell hb5 (by first | (simp [go_sem]; done) | (simp [go_sem, KF0]; done) | (simp [go_sem, KF0, World.cell?_alloc_some]; done) | (simp [go_sem, KF0, frozen?_alloc_cells]; done)), keep_cell hb5 (by first | (simp [go_sem]; done) | (simp [go_sem, KF0]; done) | (simp [go_sem, KF0, World.cell?_alloc_some]; done) | (simp [go_sem, KF0, frozen?_alloc_cells]; done))⟩; have KF5z0 : w2.heap.size < w5.heap.size := World.block_lt_of_cell? _ _ KF5.1; have KF5z1 : w3.heap.size < w5.heap.size := World.block_lt_of_cell? _ _ KF5.2.2.2.1; have KF5z2 : w3.heap.size + 1 < w5.heap.size := World.block_lt_of_cell? _ _ KF5.2.2.2.2.2.2.1
        clear hb5 KF0
        have hee := HR.out
        have hq1 : eqB B B = true := eqB_yes rfl
        have hqe := eq_w
        go_wp2_with fail
        go_ret
        exact ⟨rfl, by go_grown⟩
end Go.Proofs.Ytcfbabgffhfkdab
