/- Contracts: repetition; operators on four bits; texts that the examples name; refusals that they name. -/
import Derived.Test.YtjcmnhipiejnpaaK
namespace Go.Proofs.Ytjcmnhipiejnpaa
open Go.RowKit
set_option linter.unusedSimpArgs false
set_option linter.unusedVariables false

theorem cell_put {w : World} {a : Addr} {v : Value} (h : (w.cell? a).isSome = true) : (w.setCell a v).cell? a = some v := by
  obtain ⟨u, hu⟩ := Option.isSome_iff_exists.1 h
  exact World.cell?_setCell_same _ _ _ hu
/-- The width of k words of W bits. -/
def wk (W k : Nat) : Nat := W * k
/-- k words n of V bits above one another. -/
def rep (V n : Nat) : Nat → Nat
  | 0 => 0
  | k + 1 => cat (rep V n k) V n
theorem rep_lt {V n : Nat} (h : n < 2 ^ V) : ∀ k, rep V n k < 2 ^ (V * k)
  | 0 => by simp [rep]
  | k + 1 => by
    have h1 := cat_lt (rep_lt h k) h
    rw [show V * k + V = V * (k + 1) from (Nat.mul_succ V k).symm] at h1
    exact h1

set_option maxHeartbeats 1000000 in
theorem repeat_any {W n k : Nat} {WW lo hi kk : Int} (hw : Wd WW lo hi W n) (hk : kk = k) (hk1 : 1 ≤ k) (hk2 : k ≤ 128 / W) (w : World) :
    Calls Try.prog 27 #[.agg #[.int .i64 WW, .int .u64 lo, .int .u64 hi], .int .i64 kk] w fun e w' => e = .returned (.tuple #[.agg #[.int .i64 ((wk W k : Nat) : Int), .int .u64 (LO (rep W n k)), .int .u64 (HI (rep W n k))], .int .i64 0]) ∧ Below w.heap.size w w' := by
  obtain ⟨h1, h2, hn, rfl, rfl, rfl⟩ := hw
  subst hk
  have hWk : W * k ≤ 128 := Nat.le_trans (Nat.mul_le_mul_left W hk2) (Nat.mul_div_le 128 W)
  have hkl : k ≤ 128 := Nat.le_trans hk2 (Nat.div_le_self _ _)
  have hq : ¬ ((128 : Int) / (W : Int) < (k : Int)) := by
    rw [show ((128 : Int) / (W : Int)) = ((128 / W : Nat) : Int) from rfl]; omega
  go_enter Try.func27, Try.ntmps27
  go_wp2_with fail
  refine (isWord_any (Wd.mk' h1 h2 hn) _).mono ?_
  rintro e w1 ⟨rfl, hb1⟩
  have hb1' := below_step (w := w) (by go_grown) hb1
  have hs1 := hb1'.size
  have KF1 : w1.cell? ⟨w.heap.size, 0, none⟩ = some (.int .i64 W) ∧ w1.cell? ⟨w.heap.size, 1, none⟩ = some (.int .u64 (LO (n))) ∧ w1.cell? ⟨w.heap.size, 2, none⟩ = some (.int .u64 (HI (n))) ∧ (∀ o, w1.frozen? ⟨w.heap.size, o, none⟩ = false) ∧ w1.cell? ⟨w.heap.size + 1, 0, none⟩ = some (cv w1 ⟨w.heap.size + 1, 0, none⟩) ∧ w1.cell? ⟨w.heap.size + 1, 1, none⟩ = some (cv w1 ⟨w.heap.size + 1, 1, none⟩) ∧ w1.cell? ⟨w.heap.size + 1, 2, none⟩ = some (cv w1 ⟨w.heap.size + 1, 2, none⟩) ∧ (∀ o, w1.frozen? ⟨w.heap.size + 1, o, none⟩ = false) := ⟨keep_cell hb1 (by first | (simp [go_sem]; done)), keep_cell hb1 (by first | (simp [go_sem]; done)), keep_cell hb1 (by first | (simp [go_sem]; done)), keep_frozen2 hb1 (by first | (simp [go_sem]; done)) (by first | (simp [go_sem]; done)), keep_some hb1 (by first | (simp [go_sem]; done)), keep_some hb1 (by first | (simp [go_sem]; done)), keep_some hb1 (by first | (simp [go_sem]; done)), keep_frozen2 hb1 (by first | (simp [go_sem]; done)) (by first | (simp [go_sem]; done))⟩; have KF1z0 : w.heap.size < w1.heap.size := World.block_lt_of_cell? _ _ KF1.1; have KF1z1 : w.heap.size + 1 < w1.heap.size := World.block_lt_of_cell? _ _ KF1.2.2.2.2.1
  clear hb1
  go_wp2_with fail
  go_loopw [23] (fun i wr => ∃ j : Nat, j + 1 ≤ k ∧ i = .int .i64 j ∧ (wr.cell? ⟨w.heap.size, 0, none⟩ = some (.int .i64 W) ∧ wr.cell? ⟨w.heap.size, 1, none⟩ = some (.int .u64 (LO n)) ∧ wr.cell? ⟨w.heap.size, 2, none⟩ = some (.int .u64 (HI n))) ∧ (wr.cell? ⟨w.heap.size + 1, 0, none⟩ = some (cv wr ⟨w.heap.size + 1, 0, none⟩) ∧ wr.cell? ⟨w.heap.size + 1, 1, none⟩ = some (cv wr ⟨w.heap.size + 1, 1, none⟩) ∧ wr.cell? ⟨w.heap.size + 1, 2, none⟩ = some (cv wr ⟨w.heap.size + 1, 2, none⟩)) ∧ (wr.cell? ⟨w1.heap.size, 0, none⟩ = some (.int .i64 ((wk W (j + 1) : Nat) : Int)) ∧ wr.cell? ⟨w1.heap.size, 1, none⟩ = some (.int .u64 (LO (rep W n (j + 1)))) ∧ wr.cell? ⟨w1.heap.size, 2, none⟩ = some (.int .u64 (HI (rep W n (j + 1))))) ∧ (∀ o, wr.frozen? ⟨w.heap.size + 1, o, none⟩ = false) ∧ (∀ o, wr.frozen? ⟨w1.heap.size, o, none⟩ = false) ∧ Below w.heap.size w wr) (fun i _ => k - (intOf i).toNat)
  case atStart =>
    have e1 : rep W n 1 = n := by simp [rep, cat]
    have e2 : wk W 1 = W := Nat.mul_one W
    refine ⟨0, by omega, rfl, ⟨?_, ?_, ?_⟩, ⟨?_, ?_, ?_⟩, ⟨?_, ?_, ?_⟩, ?_, ?_, ?_⟩
    all_goals first | (simp [go_sem, KF1, KF1z0, KF1z1, e1, e2]; done) | (refine cv_some ?_; simp [go_sem, KF1, KF1z0, KF1z1]; done) | (intro j; simp [go_sem, KF1, KF1z0, KF1z1, frozen?_alloc_cells]; done) | go_grown
  case round =>
    obtain ⟨j, hj, rfl, ha, hr, hc, hf1, hf2, hbl⟩ := hrel
    have KF0 := And.intro ha (And.intro hr (And.intro hc (And.intro hf1 hf2)))
    clear ha hr hc hf1 hf2
    have hlt0 := rep_lt hn (j + 1)
    have hWj : W * (j + 1) + W ≤ 128 ∨ ¬ (j + 1 < k) := by
      by_cases h : j + 1 < k
      · left
        have h3 : W * (j + 1 + 1) ≤ W * k := Nat.mul_le_mul_left W h
        rw [Nat.mul_succ] at h3
        omega
      · right; exact h
    by_cases hlt : j + 1 < k
    · have h5 : W * (j + 1) + W ≤ 128 := by rcases hWj with h | h <;> omega
      have h6 : 1 ≤ W * (j + 1) := Nat.mul_pos h1 (by omega)
      have h7 : W * (j + 1) ≤ 128 := by omega
      have HR : Hid (cat (rep W n (j + 1)) W n = rep W n (j + 2)) := rfl
      have HW : Hid (((wk W (j + 1) : Nat) : Int) + W = ((wk W (j + 2) : Nat) : Int)) := by unfold Hid wk; rw [Nat.mul_succ W (j + 1)]; omega
      have h6 : 1 ≤ wk W (j + 1) := h6
      have h7 : wk W (j + 1) ≤ 128 := h7
      have h5 : wk W (j + 1) + W ≤ 128 := h5
      have hlt0 : rep W n (j + 1) < 2 ^ wk W (j + 1) := hlt0
      clear hWj
      generalize rep W n (j + 1) = A at *
      generalize wk W (j + 1) = V at *
      go_wp2_with fail
      refine (above_any (W := V) (V := W) (Wd.mk' h6 h7 hlt0) (Wd.mk' h1 h2 hn) h5 _).mono ?_
      rintro e w2 ⟨rfl, hb2⟩
      have hb2' := below_step (w := w) (by go_grown) hb2
      have hs2 := hb2'.size
      have KF2 : w2.cell? ⟨w.heap.size, 0, none⟩ = some (.int .i64 W) ∧ w2.cell? ⟨w.heap.size, 1, none⟩ = some (.int .u64 (LO (n))) ∧ w2.cell? ⟨w.heap.size, 2, none⟩ = some (.int .u64 (HI (n))) ∧ w2.cell? ⟨w.heap.size + 1, 0, none⟩ = some (cv w2 ⟨w.heap.size + 1, 0, none⟩) ∧ w2.cell? ⟨w.heap.size + 1, 1, none⟩ = some (cv w2 ⟨w.heap.size + 1, 1, none⟩) ∧ w2.cell? ⟨w.heap.size + 1, 2, none⟩ = some (cv w2 ⟨w.heap.size + 1, 2, none⟩) ∧ (∀ o, w2.frozen? ⟨w.heap.size + 1, o, none⟩ = false) ∧ w2.cell? ⟨w1.heap.size, 0, none⟩ = some (.int .i64 V) ∧ w2.cell? ⟨w1.heap.size, 1, none⟩ = some (.int .u64 (LO (A))) ∧ w2.cell? ⟨w1.heap.size, 2, none⟩ = some (.int .u64 (HI (A))) ∧ (∀ o, w2.frozen? ⟨w1.heap.size, o, none⟩ = false) := ⟨keep_cell hb2 (by first | (simp [go_sem]; done) | (simp [go_sem, KF0]; done) | (simp [go_sem, KF0, World.cell?_alloc_some]; done) | (simp [go_sem, KF0, frozen?_alloc_cells]; done)), keep_cell hb2 (by first | (simp [go_sem]; done) | (simp [go_sem, KF0]; done) | (simp [go_sem, KF0, World.cell?_alloc_some]; done) | (simp [go_sem, KF0, frozen?_alloc_cells]; done)), keep_cell hb2 (by first | (simp [go_sem]; done) | (simp [go_sem, KF0]; done) | (simp [go_sem, KF0, World.cell?_alloc_some]; done) | (simp [go_sem, KF0, frozen?_alloc_cells]; done)), keep_some hb2 (by first | (simp [go_sem]; done) | (simp [go_sem, KF0]; done) | (simp [go_sem, KF0, World.cell?_alloc_some]; done) | (simp [go_sem, KF0, frozen?_alloc_cells]; done)), keep_some hb2 (by first | (simp [go_sem]; done) | (simp [go_sem, KF0]; done) | (simp [go_sem, KF0, World.cell?_alloc_some]; done) | (simp [go_sem, KF0, frozen?_alloc_cells]; done)), keep_some hb2 (by first | (simp [go_sem]; done) | (simp [go_sem, KF0]; done) | (simp [go_sem, KF0, World.cell?_alloc_some]; done) | (simp [go_sem, KF0, frozen?_alloc_cells]; done)), keep_frozen2 hb2 (by first | (simp [go_sem]; done) | (simp [go_sem, KF0]; done) | (simp [go_sem, KF0, World.cell?_alloc_some]; done) | (simp [go_sem, KF0, frozen?_alloc_cells]; done)) (by first | (simp [go_sem]; done) | (simp [go_sem, KF0]; done) | (simp [go_sem, KF0, World.cell?_alloc_some]; done) | (simp [go_sem, KF0, frozen?_alloc_cells]; done)), keep_cell hb2 (by first | (simp [go_sem]; done) | (simp [go_sem, KF0]; done) | (simp [go_sem, KF0, World.cell?_alloc_some]; done) | (simp [go_sem, KF0, frozen?_alloc_cells]; done)), keep_cell hb2 (by first | (simp [go_sem]; done) | (simp [go_sem, KF0]; done) | (simp [go_sem, KF0, World.cell?_alloc_some]; done) | (simp [go_sem, KF0, frozen?_alloc_cells]; done)), keep_cell hb2 (by first | (simp [go_sem]; done) | (simp [go_sem, KF0]; done) | (simp [go_sem, KF0, World.cell?_alloc_some]; done) | (simp [go_sem, KF0, frozen?_alloc_cells]; done)), keep_frozen2 hb2 (by first | (simp [go_sem]; done) | (simp [go_sem, KF0]; done) | (simp [go_sem, KF0, World.cell?_alloc_some]; done) | (simp [go_sem, KF0, frozen?_alloc_cells]; done)) (by first | (simp [go_sem]; done) | (simp [go_sem, KF0]; done) | (simp [go_sem, KF0, World.cell?_alloc_some]; done) | (simp [go_sem, KF0, frozen?_alloc_cells]; done))⟩; have KF2z0 : w.heap.size < w2.heap.size := World.block_lt_of_cell? _ _ KF2.1; have KF2z1 : w.heap.size + 1 < w2.heap.size := World.block_lt_of_cell? _ _ KF2.2.2.2.1; have KF2z2 : w1.heap.size < w2.heap.size := World.block_lt_of_cell? _ _ KF2.2.2.2.2.2.2.2.1
      clear hb2 KF0
      go_wp2_with fail
      have KFE := And.intro KF2 (And.intro HR.out HW.out)
      refine ⟨⟨j + 1, by omega, by go_num, ⟨?_, ?_, ?_⟩, ⟨?_, ?_, ?_⟩, ⟨?_, ?_, ?_⟩, ?_, ?_, ?_⟩, by simp [intOf]; omega⟩
      all_goals first | (simp [go_sem, KFE]; done) | (refine cv_some ?_; simp [go_sem, KFE]; done) | (intro j; simp [go_sem, KFE]; done) | go_grown
    · obtain rfl : j + 1 = k := by omega
      have hlt2 : ¬ ((j : Int) < (j : Int) + 1 - 1) := by omega
      go_wp2_with fail
      refine bodyPost_ret (v := .tuple #[.agg #[.int .i64 ((wk W (j + 1) : Nat) : Int), .int .u64 (LO (rep W n (j + 1))), .int .u64 (HI (rep W n (j + 1)))], .int .i64 0]) (by simp [results, Try.results27, go_sem, KF0]) rfl ?_
      exact ⟨rfl, by go_grown⟩

set_option maxHeartbeats 400000 in
theorem lawtwo_of {a b c : Nat} {op x y : Int} (hx : x = LO a) (hy : y = LO b) (ha : a < 16) (hb : b < 16) (w : World)
    (hT : Hid (∀ wx, Calls Try.prog 42 #[.int .i64 op, .agg #[.int .i64 ((4 : Nat) : Int), .int .u64 (LO (a)), .int .u64 (HI (a))], .agg #[.int .i64 ((4 : Nat) : Int), .int .u64 (LO (b)), .int .u64 (HI (b))]] wx fun e w' => e = .returned (.tuple #[.agg #[.int .i64 ((4 : Nat) : Int), .int .u64 (LO (c)), .int .u64 (HI (c))], .int .i64 0]) ∧ Below wx.heap.size wx w')) :
    Calls Try.prog 63 #[.int .i64 op, .int .u64 x, .int .u64 y] w fun e w' => e = .returned (.int .u64 (LO c)) ∧ Below w.heap.size w w' := by
  subst hx hy
  go_enter Try.func63, Try.ntmps63
  go_wp2_with fail
  refine (four_any rfl ha _).mono ?_
  rintro e w1 ⟨rfl, hb1⟩
  have hb1' := below_step (w := w) (by go_grown) hb1
  have hs1 := hb1'.size
  go_wp2_with fail
  refine (four_any rfl hb _).mono ?_
  rintro e w2 ⟨rfl, hb2⟩
  have hb2' := below_step (w := w) (by go_grown) hb2
  have hs2 := hb2'.size
  go_wp2_with fail
  refine (hT.out _).mono ?_
  rintro e w3 ⟨rfl, hb3⟩
  have hb3' := below_step (w := w) (by go_grown) hb3
  have hs3 := hb3'.size
  go_wp2_with fail
  go_ret
  exact ⟨rfl, by go_grown⟩

set_option maxHeartbeats 400000 in
theorem right_true (w : World) :
    Calls Try.prog 10 #[.agg #[.int .i64 0, .int .u64 1, .int .u64 0]] w fun e w' => e = .returned (.bool true) ∧ Below w.heap.size w w' := by
  go_enter Try.func10, Try.ntmps10
  go_wp2_with fail
  go_region_held3 (fun x => x.cell? ⟨w.heap.size, 0, none⟩ = some (.int .i64 0) ∧ x.cell? ⟨w.heap.size, 1, none⟩ = some (.int .u64 1) ∧ x.cell? ⟨w.heap.size, 2, none⟩ = some (.int .u64 0) ∧ (∀ o, x.frozen? ⟨w.heap.size, o, none⟩ = false) ∧ Below w.heap.size w x)
    ((refine ⟨?_, ?_, ?_, ?_, ?_⟩ <;> first | (simp [go_sem]; done) | (refine cv_some ?_; simp [go_sem]; done) | (simp [go_sem, KFr, KFrz0]; done) | (refine cv_some ?_; simp [go_sem, KFr, KFrz0]; done) | (refine put_below ?_ ?_ <;> first | assumption | omega) | (have hH := ‹_ ∧ _ ∧ _ ∧ _ ∧ _›; exact put_below hH.2.2.2.2 (by omega)) | go_grown))
    ((first | (go_at_call_of 17 (Value.bool false); refine (bool_any false _).mono ?_; rintro e wq ⟨rfl, hb⟩; have hb' := below_step (w := w) (by go_grown) hb; have hs := hb'.size; have KFr : wq.cell? ⟨w.heap.size, 0, none⟩ = some (.int .i64 0) ∧ wq.cell? ⟨w.heap.size, 1, none⟩ = some (.int .u64 1) ∧ wq.cell? ⟨w.heap.size, 2, none⟩ = some (.int .u64 0) ∧ (∀ o, wq.frozen? ⟨w.heap.size, o, none⟩ = false) := ⟨keep_cell hb (by first | (simp [go_sem]; done) | (simp [go_sem, KFr]; done) | (simp [go_sem, KFr, World.cell?_alloc_some]; done) | (simp [go_sem, KFr, frozen?_alloc_cells]; done)), keep_cell hb (by first | (simp [go_sem]; done) | (simp [go_sem, KFr]; done) | (simp [go_sem, KFr, World.cell?_alloc_some]; done) | (simp [go_sem, KFr, frozen?_alloc_cells]; done)), keep_cell hb (by first | (simp [go_sem]; done) | (simp [go_sem, KFr]; done) | (simp [go_sem, KFr, World.cell?_alloc_some]; done) | (simp [go_sem, KFr, frozen?_alloc_cells]; done)), keep_frozen2 hb (by first | (simp [go_sem]; done) | (simp [go_sem, KFr]; done) | (simp [go_sem, KFr, World.cell?_alloc_some]; done) | (simp [go_sem, KFr, frozen?_alloc_cells]; done)) (by first | (simp [go_sem]; done) | (simp [go_sem, KFr]; done) | (simp [go_sem, KFr, World.cell?_alloc_some]; done) | (simp [go_sem, KFr, frozen?_alloc_cells]; done))⟩; have KFrz0 : w.heap.size < wq.heap.size := World.block_lt_of_cell? _ _ KFr.1; clear hb) | (go_at_call_of 17 (Value.bool true); refine (bool_any true _).mono ?_; rintro e wq ⟨rfl, hb⟩; have hb' := below_step (w := w) (by go_grown) hb; have hs := hb'.size; have KFr : wq.cell? ⟨w.heap.size, 0, none⟩ = some (.int .i64 0) ∧ wq.cell? ⟨w.heap.size, 1, none⟩ = some (.int .u64 1) ∧ wq.cell? ⟨w.heap.size, 2, none⟩ = some (.int .u64 0) ∧ (∀ o, wq.frozen? ⟨w.heap.size, o, none⟩ = false) := ⟨keep_cell hb (by first | (simp [go_sem]; done) | (simp [go_sem, KFr]; done) | (simp [go_sem, KFr, World.cell?_alloc_some]; done) | (simp [go_sem, KFr, frozen?_alloc_cells]; done)), keep_cell hb (by first | (simp [go_sem]; done) | (simp [go_sem, KFr]; done) | (simp [go_sem, KFr, World.cell?_alloc_some]; done) | (simp [go_sem, KFr, frozen?_alloc_cells]; done)), keep_cell hb (by first | (simp [go_sem]; done) | (simp [go_sem, KFr]; done) | (simp [go_sem, KFr, World.cell?_alloc_some]; done) | (simp [go_sem, KFr, frozen?_alloc_cells]; done)), keep_frozen2 hb (by first | (simp [go_sem]; done) | (simp [go_sem, KFr]; done) | (simp [go_sem, KFr, World.cell?_alloc_some]; done) | (simp [go_sem, KFr, frozen?_alloc_cells]; done)) (by first | (simp [go_sem]; done) | (simp [go_sem, KFr]; done) | (simp [go_sem, KFr, World.cell?_alloc_some]; done) | (simp [go_sem, KFr, frozen?_alloc_cells]; done))⟩; have KFrz0 : w.heap.size < wq.heap.size := World.block_lt_of_cell? _ _ KFr.1; clear hb)))
  obtain ⟨-, -, -, -, hBq⟩ := ‹_ ∧ _ ∧ _ ∧ _ ∧ _›
  go_wp2_with fail
  go_ret
  exact ⟨rfl, by go_grown⟩

theorem eq_16 (w : World) : (binOp .eql 24 (.agg #[.int .i64 4, .int .u64 16, .int .u64 0]) (.agg #[.int .i64 4, .int .u64 (LO 0), .int .u64 (HI 0)])).run Try.prog w = .ok (.bool false) w := by
  have h : LO 0 = 0 := by decide
  rw [h]
  simp [go_sem]

set_option maxHeartbeats 400000 in
theorem right_16 (w : World) :
    Calls Try.prog 10 #[.agg #[.int .i64 4, .int .u64 16, .int .u64 0]] w fun e w' => e = .returned (.bool false) ∧ Below w.heap.size w w' := by
  have hqe := eq_16
  go_enter Try.func10, Try.ntmps10
  go_wp2_with fail
  go_region_held3 (fun x => x.cell? ⟨w.heap.size, 0, none⟩ = some (.int .i64 4) ∧ x.cell? ⟨w.heap.size, 1, none⟩ = some (.int .u64 16) ∧ x.cell? ⟨w.heap.size, 2, none⟩ = some (.int .u64 0) ∧ (∀ o, x.frozen? ⟨w.heap.size, o, none⟩ = false) ∧ Below w.heap.size w x)
    ((refine ⟨?_, ?_, ?_, ?_, ?_⟩ <;> first | (simp [go_sem]; done) | (refine cv_some ?_; simp [go_sem]; done) | (simp [go_sem, KFr, KFrz0]; done) | (refine cv_some ?_; simp [go_sem, KFr, KFrz0]; done) | (refine put_below ?_ ?_ <;> first | assumption | omega) | (have hH := ‹_ ∧ _ ∧ _ ∧ _ ∧ _›; exact put_below hH.2.2.2.2 (by omega)) | go_grown))
    ((first | (go_at_call 39; refine (cut_any (W := 4) (m := 16) (r := 0) (by decide) (by decide) (by decide) (by decide) rfl (by decide) (by decide) _).mono ?_; rintro e wq ⟨rfl, hb⟩; have hb' := below_step (w := w) (by go_grown) hb; have hs := hb'.size; have KFr : wq.cell? ⟨w.heap.size, 0, none⟩ = some (.int .i64 4) ∧ wq.cell? ⟨w.heap.size, 1, none⟩ = some (.int .u64 16) ∧ wq.cell? ⟨w.heap.size, 2, none⟩ = some (.int .u64 0) ∧ (∀ o, wq.frozen? ⟨w.heap.size, o, none⟩ = false) := ⟨keep_cell hb (by first | (simp [go_sem]; done) | (simp [go_sem, KFr]; done) | (simp [go_sem, KFr, World.cell?_alloc_some]; done) | (simp [go_sem, KFr, frozen?_alloc_cells]; done)), keep_cell hb (by first | (simp [go_sem]; done) | (simp [go_sem, KFr]; done) | (simp [go_sem, KFr, World.cell?_alloc_some]; done) | (simp [go_sem, KFr, frozen?_alloc_cells]; done)), keep_cell hb (by first | (simp [go_sem]; done) | (simp [go_sem, KFr]; done) | (simp [go_sem, KFr, World.cell?_alloc_some]; done) | (simp [go_sem, KFr, frozen?_alloc_cells]; done)), keep_frozen2 hb (by first | (simp [go_sem]; done) | (simp [go_sem, KFr]; done) | (simp [go_sem, KFr, World.cell?_alloc_some]; done) | (simp [go_sem, KFr, frozen?_alloc_cells]; done)) (by first | (simp [go_sem]; done) | (simp [go_sem, KFr]; done) | (simp [go_sem, KFr, World.cell?_alloc_some]; done) | (simp [go_sem, KFr, frozen?_alloc_cells]; done))⟩; have KFrz0 : w.heap.size < wq.heap.size := World.block_lt_of_cell? _ _ KFr.1; clear hb)))
  obtain ⟨-, -, -, -, hBq⟩ := ‹_ ∧ _ ∧ _ ∧ _ ∧ _›
  go_wp2_with fail
  go_ret
  exact ⟨rfl, by go_grown⟩

set_option maxHeartbeats 400000 in
theorem text_true (w : World) :
    Calls Try.prog 31 #[.agg #[.int .i64 0, .int .u64 1, .int .u64 0]] w fun e w' => e = .returned (.string ⟨#[116, 114, 117, 101]⟩) ∧ Below w.heap.size w w' := by
  go_enter Try.func31, Try.ntmps31
  go_wp2_with fail
  refine (right_true _).mono ?_
  rintro e w1 ⟨rfl, hb1⟩
  have hb1' := below_step (w := w) (by go_grown) hb1
  have hs1 := hb1'.size
  have KF1 : w1.cell? ⟨w.heap.size, 0, none⟩ = some (.int .i64 0) ∧ w1.cell? ⟨w.heap.size, 1, none⟩ = some (.int .u64 1) ∧ w1.cell? ⟨w.heap.size, 2, none⟩ = some (.int .u64 0) ∧ (∀ o, w1.frozen? ⟨w.heap.size, o, none⟩ = false) := ⟨keep_cell hb1 (by first | (simp [go_sem]; done)), keep_cell hb1 (by first | (simp [go_sem]; done)), keep_cell hb1 (by first | (simp [go_sem]; done)), keep_frozen2 hb1 (by first | (simp [go_sem]; done)) (by first | (simp [go_sem]; done))⟩; have KF1z0 : w.heap.size < w1.heap.size := World.block_lt_of_cell? _ _ KF1.1
  clear hb1
  go_wp2_with fail
  go_region_held3 (fun x => x.cell? ⟨w.heap.size, 0, none⟩ = some (.int .i64 0) ∧ x.cell? ⟨w.heap.size, 1, none⟩ = some (.int .u64 1) ∧ x.cell? ⟨w.heap.size, 2, none⟩ = some (.int .u64 0) ∧ (∀ o, x.frozen? ⟨w.heap.size, o, none⟩ = false) ∧ Below w.heap.size w x)
    ((refine ⟨?_, ?_, ?_, ?_, ?_⟩ <;> first | (simp [go_sem]; done) | (refine cv_some ?_; simp [go_sem]; done) | (simp [go_sem, KFr, KFrz0]; done) | (refine cv_some ?_; simp [go_sem, KFr, KFrz0]; done) | (simp [go_sem, KF1, KF1z0]; done) | (refine cv_some ?_; simp [go_sem, KF1, KF1z0]; done) | (refine put_below ?_ ?_ <;> first | assumption | omega) | (have hH := ‹_ ∧ _ ∧ _ ∧ _ ∧ _›; exact put_below hH.2.2.2.2 (by omega)) | go_grown))
    ((first | (go_at_call 17; refine (bool_any true _).mono ?_; rintro e wq ⟨rfl, hb⟩; have hb' := below_step (w := w) (by go_grown) hb; have hs := hb'.size; have KFr : wq.cell? ⟨w.heap.size, 0, none⟩ = some (.int .i64 0) ∧ wq.cell? ⟨w.heap.size, 1, none⟩ = some (.int .u64 1) ∧ wq.cell? ⟨w.heap.size, 2, none⟩ = some (.int .u64 0) ∧ (∀ o, wq.frozen? ⟨w.heap.size, o, none⟩ = false) := ⟨keep_cell hb (by first | (simp [go_sem]; done) | (simp [go_sem, KFr]; done) | (simp [go_sem, KF1]; done) | (simp [go_sem, KFr, World.cell?_alloc_some]; done) | (simp [go_sem, KF1, World.cell?_alloc_some]; done) | (simp [go_sem, KFr, frozen?_alloc_cells]; done) | (simp [go_sem, KF1, frozen?_alloc_cells]; done)), keep_cell hb (by first | (simp [go_sem]; done) | (simp [go_sem, KFr]; done) | (simp [go_sem, KF1]; done) | (simp [go_sem, KFr, World.cell?_alloc_some]; done) | (simp [go_sem, KF1, World.cell?_alloc_some]; done) | (simp [go_sem, KFr, frozen?_alloc_cells]; done) | (simp [go_sem, KF1, frozen?_alloc_cells]; done)), keep_cell hb (by first | (simp [go_sem]; done) | (simp [go_sem, KFr]; done) | (simp [go_sem, KF1]; done) | (simp [go_sem, KFr, World.cell?_alloc_some]; done) | (simp [go_sem, KF1, World.cell?_alloc_some]; done) | (simp [go_sem, KFr, frozen?_alloc_cells]; done) | (simp [go_sem, KF1, frozen?_alloc_cells]; done)), keep_frozen2 hb (by first | (simp [go_sem]; done) | (simp [go_sem, KFr]; done) | (simp [go_sem, KF1]; done) | (simp [go_sem, KFr, World.cell?_alloc_some]; done) | (simp [go_sem, KF1, World.cell?_alloc_some]; done) | (simp [go_sem, KFr, frozen?_alloc_cells]; done) | (simp [go_sem, KF1, frozen?_alloc_cells]; done)) (by first | (simp [go_sem]; done) | (simp [go_sem, KFr]; done) | (simp [go_sem, KF1]; done) | (simp [go_sem, KFr, World.cell?_alloc_some]; done) | (simp [go_sem, KF1, World.cell?_alloc_some]; done) | (simp [go_sem, KFr, frozen?_alloc_cells]; done) | (simp [go_sem, KF1, frozen?_alloc_cells]; done))⟩; have KFrz0 : w.heap.size < wq.heap.size := World.block_lt_of_cell? _ _ KFr.1; clear hb)))
  obtain ⟨-, -, -, -, hBq⟩ := ‹_ ∧ _ ∧ _ ∧ _ ∧ _›
  go_wp2_with fail
  go_ret
  exact ⟨rfl, by go_grown⟩

set_option maxHeartbeats 400000 in
theorem prefix_b (w : World) :
    Calls Try.prog 57 #[.string ⟨#[35, 120, 102, 70]⟩, .string ⟨#[35, 98]⟩] w fun e w' => e = .returned (.bool false) ∧ w' = w := by
  go_enter Try.func57, Try.ntmps57
  go_wp2
  go_ret
  exact ⟨ret_bool (by decide +kernel), rfl⟩

set_option maxHeartbeats 400000 in
theorem prefix_x (w : World) :
    Calls Try.prog 57 #[.string ⟨#[35, 120, 102, 70]⟩, .string ⟨#[35, 120]⟩] w fun e w' => e = .returned (.bool true) ∧ w' = w := by
  go_enter Try.func57, Try.ntmps57
  go_wp2
  go_ret
  exact ⟨ret_bool (by decide +kernel), rfl⟩

set_option maxHeartbeats 400000 in
theorem digit_f (w : World) :
    Calls Try.prog 78 #[.int .u8 102] w fun e w' => e = .returned (.int .u64 15) ∧ w' = w := by
  go_enter Try.func78, Try.ntmps78
  go_wp2
  go_ret
  exact ⟨rfl, rfl⟩

set_option maxHeartbeats 400000 in
theorem digit_F (w : World) :
    Calls Try.prog 78 #[.int .u8 70] w fun e w' => e = .returned (.int .u64 15) ∧ w' = w := by
  go_enter Try.func78, Try.ntmps78
  go_wp2
  go_ret
  exact ⟨rfl, rfl⟩

set_option maxHeartbeats 800000 in
theorem digits_ff (w : World) :
    Calls Try.prog 58 #[.string ⟨#[102, 70]⟩, .int .i64 4] w fun e w' => e = .returned (.tuple #[.agg #[.int .i64 8, .int .u64 255, .int .u64 0], .int .i64 0]) ∧ Below w.heap.size w w' := by
  go_enter Try.func58, Try.ntmps58
  go_wp2_with fail
  refine (cut_any (W := 8) (m := 0) (r := 0) (by decide) (by decide) (by decide) (by decide) rfl lo0 hi0 _).mono ?_
  rintro e w1 ⟨rfl, hb1⟩
  have hb1' := below_step (w := w) (by go_grown) hb1
  have hs1 := hb1'.size
  have KF1 : w1.cell? ⟨w.heap.size, 0, none⟩ = some (cv w1 ⟨w.heap.size, 0, none⟩) ∧ w1.cell? ⟨w.heap.size, 1, none⟩ = some (cv w1 ⟨w.heap.size, 1, none⟩) ∧ w1.cell? ⟨w.heap.size, 2, none⟩ = some (cv w1 ⟨w.heap.size, 2, none⟩) ∧ (∀ o, w1.frozen? ⟨w.heap.size, o, none⟩ = false) := ⟨keep_some hb1 (by first | (simp [go_sem]; done)), keep_some hb1 (by first | (simp [go_sem]; done)), keep_some hb1 (by first | (simp [go_sem]; done)), keep_frozen2 hb1 (by first | (simp [go_sem]; done)) (by first | (simp [go_sem]; done))⟩; have KF1z0 : w.heap.size < w1.heap.size := World.block_lt_of_cell? _ _ KF1.1
  clear hb1
  have b0 : ((⟨#[102, 70]⟩ : ByteArray)[0].toNat : Int) = 102 := by decide +kernel
  have b1 : ((⟨#[102, 70]⟩ : ByteArray)[1].toNat : Int) = 70 := by decide +kernel
  have HX : Hid (bits .or .u64 (LO 0) 15 = LO 15) := by unfold Hid; decide +kernel
  have HY : Hid (bits .or .u64 (LO 240) 15 = 255) := by unfold Hid; decide +kernel
  have H0 : Hid (HI 240 = 0) := by unfold Hid; decide +kernel
  go_wp2_with fail
  refine wp_loop_rounds 3 ?_
  rw [rounds_succ]
  go_wp2_with fail
  refine (digit_f _).mono ?_
  rintro e w0 ⟨rfl, rfl⟩
  go_wp2_with fail
  refine (lowest_any 4 (by decide) (by decide) _).mono ?_
  rintro e w0 ⟨rfl, rfl⟩
  go_wp2_with fail
  refine (moveUp_any (W := 8) (n := 0) (k := 4) ⟨by decide, by decide, by decide, rfl, rfl, rfl⟩ rfl (by decide) _).mono ?_
  rintro e w2 ⟨rfl, hb2⟩
  have hb2' := below_step (w := w) (by go_grown) hb2
  have hs2 := hb2'.size
  have KF2 : w2.cell? ⟨w.heap.size, 0, none⟩ = some (cv w2 ⟨w.heap.size, 0, none⟩) ∧ w2.cell? ⟨w.heap.size, 1, none⟩ = some (cv w2 ⟨w.heap.size, 1, none⟩) ∧ w2.cell? ⟨w.heap.size, 2, none⟩ = some (cv w2 ⟨w.heap.size, 2, none⟩) ∧ (∀ o, w2.frozen? ⟨w.heap.size, o, none⟩ = false) ∧ w2.cell? ⟨w1.heap.size, 0, none⟩ = some (.int .i64 8) ∧ w2.cell? ⟨w1.heap.size, 1, none⟩ = some (.int .u64 (LO (0))) ∧ w2.cell? ⟨w1.heap.size, 2, none⟩ = some (.int .u64 (HI (0))) ∧ (∀ o, w2.frozen? ⟨w1.heap.size, o, none⟩ = false) := ⟨keep_some hb2 (by first | (simp [go_sem]; done) | (simp [go_sem, KF1]; done) | (simp [go_sem, KF1, World.cell?_alloc_some]; done) | (simp [go_sem, KF1, frozen?_alloc_cells]; done)), keep_some hb2 (by first | (simp [go_sem]; done) | (simp [go_sem, KF1]; done) | (simp [go_sem, KF1, World.cell?_alloc_some]; done) | (simp [go_sem, KF1, frozen?_alloc_cells]; done)), keep_some hb2 (by first | (simp [go_sem]; done) | (simp [go_sem, KF1]; done) | (simp [go_sem, KF1, World.cell?_alloc_some]; done) | (simp [go_sem, KF1, frozen?_alloc_cells]; done)), keep_frozen2 hb2 (by first | (simp [go_sem]; done) | (simp [go_sem, KF1]; done) | (simp [go_sem, KF1, World.cell?_alloc_some]; done) | (simp [go_sem, KF1, frozen?_alloc_cells]; done)) (by first | (simp [go_sem]; done) | (simp [go_sem, KF1]; done) | (simp [go_sem, KF1, World.cell?_alloc_some]; done) | (simp [go_sem, KF1, frozen?_alloc_cells]; done)), keep_cell hb2 (by first | (simp [go_sem]; done) | (simp [go_sem, KF1]; done) | (simp [go_sem, KF1, World.cell?_alloc_some]; done) | (simp [go_sem, KF1, frozen?_alloc_cells]; done)), keep_cell hb2 (by first | (simp [go_sem]; done) | (simp [go_sem, KF1]; done) | (simp [go_sem, KF1, World.cell?_alloc_some]; done) | (simp [go_sem, KF1, frozen?_alloc_cells]; done)), keep_cell hb2 (by first | (simp [go_sem]; done) | (simp [go_sem, KF1]; done) | (simp [go_sem, KF1, World.cell?_alloc_some]; done) | (simp [go_sem, KF1, frozen?_alloc_cells]; done)), keep_frozen2 hb2 (by first | (simp [go_sem]; done) | (simp [go_sem, KF1]; done) | (simp [go_sem, KF1, World.cell?_alloc_some]; done) | (simp [go_sem, KF1, frozen?_alloc_cells]; done)) (by first | (simp [go_sem]; done) | (simp [go_sem, KF1]; done) | (simp [go_sem, KF1, World.cell?_alloc_some]; done) | (simp [go_sem, KF1, frozen?_alloc_cells]; done))⟩; have KF2z0 : w.heap.size < w2.heap.size := World.block_lt_of_cell? _ _ KF2.1; have KF2z1 : w1.heap.size < w2.heap.size := World.block_lt_of_cell? _ _ KF2.2.2.2.2.1
  clear hb2 KF1
  go_wp2_with fail
  rw [HX.out]
  generalize hX : World.setCell (World.setCell (World.setCell (World.setCell w2 _ _) _ _) _ _) _ _ = X
  have KFX : X.cell? ⟨w.heap.size, 0, none⟩ = some (cv X ⟨w.heap.size, 0, none⟩) ∧ X.cell? ⟨w.heap.size, 1, none⟩ = some (cv X ⟨w.heap.size, 1, none⟩) ∧ X.cell? ⟨w.heap.size, 2, none⟩ = some (cv X ⟨w.heap.size, 2, none⟩) ∧ (∀ o, X.frozen? ⟨w.heap.size, o, none⟩ = false) ∧ X.cell? ⟨w1.heap.size, 0, none⟩ = some (.int .i64 8) ∧ X.cell? ⟨w1.heap.size, 1, none⟩ = some (.int .u64 (LO 15)) ∧ X.cell? ⟨w1.heap.size, 2, none⟩ = some (.int .u64 (HI 0)) ∧ (∀ o, X.frozen? ⟨w1.heap.size, o, none⟩ = false) := by
    have hne : ¬ w1.heap.size = w.heap.size := by omega
    subst hX
    refine ⟨?_, ?_, ?_, ?_, ?_, ?_, ?_, ?_⟩ <;> first | (simp (maxDischargeDepth := 6) [go_sem, cell_put, KF2, hne]; done) | (refine cv_some ?_; simp (maxDischargeDepth := 6) [go_sem, cell_put, KF2, hne]; done)
  have hbX : Below w.heap.size w X := by subst hX; go_grown
  have hsX := hbX.size
  clear hX KF2
  rw [rounds_succ]
  go_wp2_with fail
  refine (digit_F _).mono ?_
  rintro e w0 ⟨rfl, rfl⟩
  go_wp2_with fail
  refine (lowest_any 4 (by decide) (by decide) _).mono ?_
  rintro e w0 ⟨rfl, rfl⟩
  go_wp2_with fail
  refine (moveUp_any (W := 8) (n := 15) (k := 4) ⟨by decide, by decide, by decide, rfl, rfl, by decide⟩ rfl (by decide) _).mono ?_
  rintro e w3 ⟨rfl, hb3⟩
  have hb3' := below_step (w := w) (by go_grown) hb3
  have hs3 := hb3'.size
  have KF3 : w3.cell? ⟨w.heap.size, 0, none⟩ = some (cv w3 ⟨w.heap.size, 0, none⟩) ∧ w3.cell? ⟨w.heap.size, 1, none⟩ = some (cv w3 ⟨w.heap.size, 1, none⟩) ∧ w3.cell? ⟨w.heap.size, 2, none⟩ = some (cv w3 ⟨w.heap.size, 2, none⟩) ∧ (∀ o, w3.frozen? ⟨w.heap.size, o, none⟩ = false) ∧ w3.cell? ⟨w1.heap.size, 0, none⟩ = some (.int .i64 8) ∧ w3.cell? ⟨w1.heap.size, 1, none⟩ = some (.int .u64 (LO 15)) ∧ w3.cell? ⟨w1.heap.size, 2, none⟩ = some (.int .u64 (HI 0)) ∧ (∀ o, w3.frozen? ⟨w1.heap.size, o, none⟩ = false) := ⟨keep_some hb3 (by first | (simp [go_sem]; done) | (simp [go_sem, KFX]; done) | (simp [go_sem, KFX, World.cell?_alloc_some]; done) | (simp [go_sem, KFX, frozen?_alloc_cells]; done)), keep_some hb3 (by first | (simp [go_sem]; done) | (simp [go_sem, KFX]; done) | (simp [go_sem, KFX, World.cell?_alloc_some]; done) | (simp [go_sem, KFX, frozen?_alloc_cells]; done)), keep_some hb3 (by first | (simp [go_sem]; done) | (simp [go_sem, KFX]; done) | (simp [go_sem, KFX, World.cell?_alloc_some]; done) | (simp [go_sem, KFX, frozen?_alloc_cells]; done)), keep_frozen2 hb3 (by first | (simp [go_sem]; done) | (simp [go_sem, KFX]; done) | (simp [go_sem, KFX, World.cell?_alloc_some]; done) | (simp [go_sem, KFX, frozen?_alloc_cells]; done)) (by first | (simp [go_sem]; done) | (simp [go_sem, KFX]; done) | (simp [go_sem, KFX, World.cell?_alloc_some]; done) | (simp [go_sem, KFX, frozen?_alloc_cells]; done)), keep_cell hb3 (by first | (simp [go_sem]; done) | (simp [go_sem, KFX]; done) | (simp [go_sem, KFX, World.cell?_alloc_some]; done) | (simp [go_sem, KFX, frozen?_alloc_cells]; done)), keep_cell hb3 (by first | (simp [go_sem]; done) | (simp [go_sem, KFX]; done) | (simp [go_sem, KFX, World.cell?_alloc_some]; done) | (simp [go_sem, KFX, frozen?_alloc_cells]; done)), keep_cell hb3 (by first | (simp [go_sem]; done) | (simp [go_sem, KFX]; done) | (simp [go_sem, KFX, World.cell?_alloc_some]; done) | (simp [go_sem, KFX, frozen?_alloc_cells]; done)), keep_frozen2 hb3 (by first | (simp [go_sem]; done) | (simp [go_sem, KFX]; done) | (simp [go_sem, KFX, World.cell?_alloc_some]; done) | (simp [go_sem, KFX, frozen?_alloc_cells]; done)) (by first | (simp [go_sem]; done) | (simp [go_sem, KFX]; done) | (simp [go_sem, KFX, World.cell?_alloc_some]; done) | (simp [go_sem, KFX, frozen?_alloc_cells]; done))⟩; have KF3z0 : w.heap.size < w3.heap.size := World.block_lt_of_cell? _ _ KF3.1; have KF3z1 : w1.heap.size < w3.heap.size := World.block_lt_of_cell? _ _ KF3.2.2.2.2.1
  clear hb3 KFX
  go_wp2_with fail
  rw [HY.out]
  generalize hY : World.setCell (World.setCell (World.setCell (World.setCell w3 _ _) _ _) _ _) _ _ = Y
  have KFY : Y.cell? ⟨w.heap.size, 0, none⟩ = some (cv Y ⟨w.heap.size, 0, none⟩) ∧ Y.cell? ⟨w.heap.size, 1, none⟩ = some (cv Y ⟨w.heap.size, 1, none⟩) ∧ Y.cell? ⟨w.heap.size, 2, none⟩ = some (cv Y ⟨w.heap.size, 2, none⟩) ∧ (∀ o, Y.frozen? ⟨w.heap.size, o, none⟩ = false) ∧ Y.cell? ⟨w1.heap.size, 0, none⟩ = some (.int .i64 8) ∧ Y.cell? ⟨w1.heap.size, 1, none⟩ = some (.int .u64 255) ∧ Y.cell? ⟨w1.heap.size, 2, none⟩ = some (.int .u64 (HI 240)) := by
    have hne : ¬ w1.heap.size = w.heap.size := by omega
    subst hY
    refine ⟨?_, ?_, ?_, ?_, ?_, ?_, ?_⟩ <;> first | (simp (maxDischargeDepth := 6) [go_sem, cell_put, KF3, hne]; done) | (refine cv_some ?_; simp (maxDischargeDepth := 6) [go_sem, cell_put, KF3, hne]; done)
  have hbY : Below w.heap.size w Y := by subst hY; go_grown
  have hsY := hbY.size
  clear hY KF3
  rw [rounds_succ]
  go_wp2_with fail
  refine bodyPost_ret (v := .tuple #[.agg #[.int .i64 8, .int .u64 255, .int .u64 (HI 240)], .int .i64 0]) (by simp [results, Try.results58, go_sem, KFY]) rfl ?_
  exact ⟨by rw [H0.out], by go_grown⟩

set_option maxHeartbeats 400000 in
theorem parse_ff (w : World) :
    Calls Try.prog 29 #[.string ⟨#[35, 120, 102, 70]⟩] w fun e w' => e = .returned (.tuple #[.agg #[.int .i64 8, .int .u64 255, .int .u64 0], .int .i64 0]) ∧ Below w.heap.size w w' := by
  go_enter Try.func29, Try.ntmps29
  go_wp2_with fail
  refine (prefix_b _).mono ?_
  rintro e w0 ⟨rfl, rfl⟩
  go_wp2_with fail
  refine (prefix_x _).mono ?_
  rintro e w0 ⟨rfl, rfl⟩
  go_wp2_with fail
  refine (digits_ff _).mono ?_
  rintro e w1 ⟨rfl, hb1⟩
  have hb1' := below_step (w := w) (by go_grown) hb1
  have hs1 := hb1'.size
  have KF1 : w1.cell? ⟨w.heap.size, 0, none⟩ = some (cv w1 ⟨w.heap.size, 0, none⟩) ∧ w1.cell? ⟨w.heap.size, 1, none⟩ = some (cv w1 ⟨w.heap.size, 1, none⟩) ∧ w1.cell? ⟨w.heap.size, 2, none⟩ = some (cv w1 ⟨w.heap.size, 2, none⟩) ∧ (∀ o, w1.frozen? ⟨w.heap.size, o, none⟩ = false) := ⟨keep_some hb1 (by first | (simp [go_sem]; done)), keep_some hb1 (by first | (simp [go_sem]; done)), keep_some hb1 (by first | (simp [go_sem]; done)), keep_frozen2 hb1 (by first | (simp [go_sem]; done)) (by first | (simp [go_sem]; done))⟩; have KF1z0 : w.heap.size < w1.heap.size := World.block_lt_of_cell? _ _ KF1.1
  clear hb1
  go_wp2_with fail
  refine bodyPost_ret (v := .tuple #[.agg #[.int .i64 8, .int .u64 255, .int .u64 0], .int .i64 0]) (by simp [results, Try.results29, go_sem, *]) rfl ?_
  exact ⟨rfl, by go_grown⟩

set_option maxHeartbeats 400000 in
theorem new_no (w : World) :
    Calls Try.prog 15 #[.int .i64 129, .int .u64 0, .int .u64 0] w fun e w' => e = .returned (.tuple #[.agg #[.int .i64 0, .int .u64 0, .int .u64 0], .int .i64 10]) ∧ Below w.heap.size w w' := by
  go_enter Try.func15, Try.ntmps15
  go_wp2_with fail
  refine bodyPost_ret (v := .tuple #[.agg #[.int .i64 0, .int .u64 0, .int .u64 0], .int .i64 10]) (by simp [results, Try.results15, go_sem]) rfl ?_
  exact ⟨rfl, by go_grown⟩
end Go.Proofs.Ytjcmnhipiejnpaa
