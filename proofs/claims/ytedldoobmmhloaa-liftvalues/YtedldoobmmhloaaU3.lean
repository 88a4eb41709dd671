/- Contracts: the document's right words; what it says of wrong ones. -/
import Derived.Test.YtedldoobmmhloaaU1
import Derived.Test.YtedldoobmmhloaaU2
namespace Go.Proofs.Ytedldoobmmhloaa
open Go.RowKit
set_option linter.unusedSimpArgs false
set_option linter.unusedVariables false

theorem bs_cells {w : World} {base g W n : Nat} (h : Bs w base (.slice (some ⟨g, 0, none⟩) W W) (bl W n)) : ∀ j, j < W → w.cell? ⟨g, 0 + j, none⟩ = some (.bool (n.testBit j)) := fun j hj => by
  rw [Nat.zero_add]; exact Bs.cell h (bl_len W n).symm (bl_get hj)

set_option maxHeartbeats 400000 in
theorem refright_out {A : Int} {N : Nat} (h : A < 0 ∨ 128 < A) (w : World) :
    Calls Try.prog 12 #[.agg #[.int .i64 A, .int .u64 (LO (N)), .int .u64 (HI (N))]] w fun e w' => e = .returned (.bool false) ∧ Below w.heap.size w w' := by
  by_cases h0 : A < 0
  · go_enter Try.func12, Try.ntmps12
    go_wp2_with fail
    go_ret
    exact ⟨rfl, by go_grown⟩
  · have h1 : 128 < A := by omega
    go_enter Try.func12, Try.ntmps12
    go_wp2_with fail
    go_ret
    exact ⟨rfl, by go_grown⟩

set_option maxHeartbeats 400000 in
theorem refright_0 {N : Nat} (w : World) :
    Calls Try.prog 12 #[.agg #[.int .i64 0, .int .u64 (LO (N)), .int .u64 (HI (N))]] w fun e w' => e = .returned (.bool (decide (LO N ≤ 1) && (HI N == 0))) ∧ Below w.heap.size w w' := by
  by_cases h0 : LO N ≤ 1
  · by_cases h1 : HI N = 0
    · go_enter Try.func12, Try.ntmps12
      go_wp2_with fail
      go_ret
      exact ⟨by simp [h0, h1], by go_grown⟩
    · go_enter Try.func12, Try.ntmps12
      go_wp2_with fail
      go_ret
      exact ⟨by simp [h0, h1], by go_grown⟩
  · have hd : decide (LO N ≤ 1) = false := by simp; omega
    have HE : Hid ((decide (LO N ≤ 1) && (HI N == 0)) = false) := by unfold Hid; rw [hd]; rfl
    rw [HE.out]
    clear h0
    go_enter Try.func12, Try.ntmps12
    go_wp2_with fail
    go_ret
    exact ⟨rfl, by go_grown⟩

set_option maxHeartbeats 800000 in
theorem refright_w {W N r : Nat} {c : Bool} (h1 : 1 ≤ W) (h2 : W ≤ 128) (hN : N < 2 ^ 128) (hr : N % 2 ^ W = r) (hc : eqB r N = c) (w : World) :
    Calls Try.prog 12 #[.agg #[.int .i64 W, .int .u64 (LO (N)), .int .u64 (HI (N))]] w fun e w' => e = .returned (.bool c) ∧ Below w.heap.size w w' := by
  have hd : decide ((W : Int) < 0) = false := by simp only [decide_eq_false_iff_not]; omega
  have hd2 : decide ((128 : Int) < W) = false := by simp only [decide_eq_false_iff_not]; omega
  have hd3 : ((W : Int) == 0) = false := by simp; omega
  have HW : Hid (∀ (g : Nat) (wx : World), (∀ j, j < W → wx.cell? ⟨g, 0 + j, none⟩ = some (.bool (N.testBit j))) → g < wx.heap.size → Calls Try.prog 9 #[.slice (some ⟨g, 0, none⟩) W W] wx fun e w' => e = .returned (.agg #[.int .i64 W, .int .u64 (LO (r)), .int .u64 (HI (r))]) ∧ Below wx.heap.size wx w') := fun g wx hx hg => by rw [← hr]; exact word_at h2 hN wx hx hg
  clear hr
  have hqe := eq_w
  go_enter Try.func12, Try.ntmps12
  go_wp2_with fail
  go_region_held3 (fun x => x.cell? ⟨w.heap.size, 0, none⟩ = some (.int .i64 W) ∧ x.cell? ⟨w.heap.size, 1, none⟩ = some (.int .u64 (LO (N))) ∧ x.cell? ⟨w.heap.size, 2, none⟩ = some (.int .u64 (HI (N))) ∧ Below w.heap.size w x)
    ((refine ⟨?_, ?_, ?_, ?_⟩ <;> first | (simp [go_sem]; done) | (refine cv_some ?_; simp [go_sem]; done) | (simp [go_sem, KFr, KFrz0]; done) | (refine cv_some ?_; simp [go_sem, KFr, KFrz0]; done) | (refine put_below ?_ ?_ <;> first | assumption | omega) | (have hH := ‹_ ∧ _ ∧ _ ∧ _›; exact put_below hH.2.2.2 (by omega)) | go_grown))
    ((first | (go_at_call 23; refine (bits_own h2 hN rfl rfl rfl _).mono ?_; rintro e wq ⟨g, rfl, hB, hb⟩; have hb' := below_step (w := w) (by go_grown) hb; have hs := hb'.size; have KFr : wq.cell? ⟨w.heap.size, 0, none⟩ = some (.int .i64 W) ∧ wq.cell? ⟨w.heap.size, 1, none⟩ = some (.int .u64 (LO (N))) ∧ wq.cell? ⟨w.heap.size, 2, none⟩ = some (.int .u64 (HI (N))) := ⟨keep_cell hb (by first | (simp [go_sem]; done) | (simp [go_sem, KFr]; done) | (simp [go_sem, KFr, World.cell?_alloc_some]; done) | (simp [go_sem, KFr, frozen?_alloc_cells]; done)), keep_cell hb (by first | (simp [go_sem]; done) | (simp [go_sem, KFr]; done) | (simp [go_sem, KFr, World.cell?_alloc_some]; done) | (simp [go_sem, KFr, frozen?_alloc_cells]; done)), keep_cell hb (by first | (simp [go_sem]; done) | (simp [go_sem, KFr]; done) | (simp [go_sem, KFr, World.cell?_alloc_some]; done) | (simp [go_sem, KFr, frozen?_alloc_cells]; done))⟩; have KFrz0 : w.heap.size < wq.heap.size := World.block_lt_of_cell? _ _ KFr.1; have HBs : Hid (Bs wq _ (.slice (some ⟨g, 0, none⟩) W W) (bl W N)) := hB; clear hB; clear hb) | (go_at_call 9; refine (HW.out _ _ (bs_cells HBs.out) (Bs.lt HBs.out).2).mono ?_; rintro e wq ⟨rfl, hb⟩; have hb' := below_step (w := w) (by go_grown) hb; have hs := hb'.size; have KFr : wq.cell? ⟨w.heap.size, 0, none⟩ = some (.int .i64 W) ∧ wq.cell? ⟨w.heap.size, 1, none⟩ = some (.int .u64 (LO (N))) ∧ wq.cell? ⟨w.heap.size, 2, none⟩ = some (.int .u64 (HI (N))) := ⟨keep_cell hb (by first | (simp [go_sem]; done) | (simp [go_sem, KFr]; done) | (simp [go_sem, KFr, World.cell?_alloc_some]; done) | (simp [go_sem, KFr, frozen?_alloc_cells]; done)), keep_cell hb (by first | (simp [go_sem]; done) | (simp [go_sem, KFr]; done) | (simp [go_sem, KFr, World.cell?_alloc_some]; done) | (simp [go_sem, KFr, frozen?_alloc_cells]; done)), keep_cell hb (by first | (simp [go_sem]; done) | (simp [go_sem, KFr]; done) | (simp [go_sem, KFr, World.cell?_alloc_some]; done) | (simp [go_sem, KFr, frozen?_alloc_cells]; done))⟩; have KFrz0 : w.heap.size < wq.heap.size := World.block_lt_of_cell? _ _ KFr.1; clear hb)))
  obtain ⟨-, -, -, hBq⟩ := ‹_ ∧ _ ∧ _ ∧ _›
  go_wp2_with fail
  go_ret
  exact ⟨rfl, by go_grown⟩

end Go.Proofs.Ytedldoobmmhloaa
