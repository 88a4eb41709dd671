/- Contracts: right words, whatever they are (over the texts of words). -/
import Derived.Test.YtedldoobmmhloaaH
namespace Go.Proofs.Ytedldoobmmhloaa
open Go.RowKit
set_option linter.unusedSimpArgs false
set_option linter.unusedVariables false

set_option maxHeartbeats 400000 in
theorem right_out0 {A : Int} {N : Nat} (h : A < 0 ∨ 128 < A) (w : World) :
    Calls Try.prog 22 #[.agg #[.int .i64 A, .int .u64 (LO (N)), .int .u64 (HI (N))]] w fun e w' => e = .returned (.bool false) ∧ Below w.heap.size w w' := by
  by_cases h0 : A < 0
  · go_enter Try.func22, Try.ntmps22
    go_wp2_with fail
    go_ret
    exact ⟨rfl, by go_grown⟩
  · have h1 : 128 < A := by omega
    go_enter Try.func22, Try.ntmps22
    go_wp2_with fail
    go_ret
    exact ⟨rfl, by go_grown⟩
set_option maxHeartbeats 400000 in
theorem right_big0 {W N : Nat} (h1 : 1 ≤ W) (h2 : W ≤ 128) (hN : N < 2 ^ 128) (hb : ¬ N < 2 ^ W) (w : World) :
    Calls Try.prog 22 #[.agg #[.int .i64 W, .int .u64 (LO (N)), .int .u64 (HI (N))]] w fun e w' => e = .returned (.bool false) ∧ Below w.heap.size w w' := by
  have hd : decide ((W : Int) < 0) = false := by simp only [decide_eq_false_iff_not]; omega
  have hd2 : decide ((128 : Int) < W) = false := by simp only [decide_eq_false_iff_not]; omega
  have hd3 : ((W : Int) == 0) = false := by simp; omega
  obtain ⟨r, hr⟩ : ∃ r, N % 2 ^ W = r := ⟨_, rfl⟩
  have hq : eqB N r = false := eqB_no (fun e => hb (by rw [e, ← hr]; exact mod_lt_W _ _))
  have HR : Hid _ := hr
  clear hr hb
  have hqe := eq_w
  go_enter Try.func22, Try.ntmps22
  go_wp2_with fail
  go_region_held3 (fun x => x.cell? ⟨w.heap.size, 0, none⟩ = some (.int .i64 W) ∧ x.cell? ⟨w.heap.size, 1, none⟩ = some (.int .u64 (LO (N))) ∧ x.cell? ⟨w.heap.size, 2, none⟩ = some (.int .u64 (HI (N))) ∧ Below w.heap.size w x)
    ((refine ⟨?_, ?_, ?_, ?_⟩ <;> first | (simp [go_sem]; done) | (refine cv_some ?_; simp [go_sem]; done) | (simp [go_sem, KFr, KFrz0]; done) | (refine cv_some ?_; simp [go_sem, KFr, KFrz0]; done) | (refine put_below ?_ ?_ <;> first | assumption | omega) | (have hH := ‹_ ∧ _ ∧ _ ∧ _›; exact put_below hH.2.2.2 (by omega)) | go_grown))
    ((first | (go_at_call 34; refine (cut_any (m := N) (r := r) h1 h2 hN HR.out rfl rfl rfl _).mono ?_; rintro e wq ⟨rfl, hb⟩; have hb' := below_step (w := w) (by go_grown) hb; have hs := hb'.size; have KFr : wq.cell? ⟨w.heap.size, 0, none⟩ = some (.int .i64 W) ∧ wq.cell? ⟨w.heap.size, 1, none⟩ = some (.int .u64 (LO (N))) ∧ wq.cell? ⟨w.heap.size, 2, none⟩ = some (.int .u64 (HI (N))) := ⟨keep_cell hb (by first | (simp [go_sem]; done) | (simp [go_sem, KFr]; done) | (simp [go_sem, KFr, World.cell?_alloc_some]; done) | (simp [go_sem, KFr, frozen?_alloc_cells]; done)), keep_cell hb (by first | (simp [go_sem]; done) | (simp [go_sem, KFr]; done) | (simp [go_sem, KFr, World.cell?_alloc_some]; done) | (simp [go_sem, KFr, frozen?_alloc_cells]; done)), keep_cell hb (by first | (simp [go_sem]; done) | (simp [go_sem, KFr]; done) | (simp [go_sem, KFr, World.cell?_alloc_some]; done) | (simp [go_sem, KFr, frozen?_alloc_cells]; done))⟩; have KFrz0 : w.heap.size < wq.heap.size := World.block_lt_of_cell? _ _ KFr.1; clear hb)))
  obtain ⟨-, -, -, hBq⟩ := ‹_ ∧ _ ∧ _ ∧ _›
  go_wp2_with fail
  go_ret
  exact ⟨rfl, by go_grown⟩
theorem eq_b0 (lo hi x : Int) (w : World) : (binOp .eql 25 (.agg #[.int .i64 0, .int .u64 lo, .int .u64 hi]) (.agg #[.int .i64 0, .int .u64 x, .int .u64 0])).run Try.prog w = .ok (.bool (decide (lo = x) && decide (hi = 0))) w := by
  by_cases h1 : lo = x
  · by_cases h2 : hi = 0 <;> simp [go_sem, h1, h2]
  · simp [go_sem, h1]
set_option maxHeartbeats 800000 in
theorem right_zero (lo hi : Int) (w : World) :
    Calls Try.prog 22 #[.agg #[.int .i64 0, .int .u64 lo, .int .u64 hi]] w fun e w' => e = .returned (.bool ((decide (lo = 0) && decide (hi = 0)) || (decide (lo = 1) && decide (hi = 0)))) ∧ Below w.heap.size w w' := by
  have hqe := eq_b0
  cases hz : (decide (lo = 0) && decide (hi = 0))
  · go_enter Try.func22, Try.ntmps22
    go_wp2_with fail
    go_region_held3 (fun x => x.cell? ⟨w.heap.size, 0, none⟩ = some (.int .i64 0) ∧ x.cell? ⟨w.heap.size, 1, none⟩ = some (.int .u64 lo) ∧ x.cell? ⟨w.heap.size, 2, none⟩ = some (.int .u64 hi) ∧ (∀ o, x.frozen? ⟨w.heap.size, o, none⟩ = false) ∧ Below w.heap.size w x)
      ((refine ⟨?_, ?_, ?_, ?_, ?_⟩ <;> first | (simp [go_sem]; done) | (refine cv_some ?_; simp [go_sem]; done) | (simp [go_sem, KFr, KFrz0]; done) | (refine cv_some ?_; simp [go_sem, KFr, KFrz0]; done) | (refine put_below ?_ ?_ <;> first | assumption | omega) | (have hH := ‹_ ∧ _ ∧ _ ∧ _ ∧ _›; exact put_below hH.2.2.2.2 (by omega)) | go_grown))
      ((first | (go_at_call_of 33 (Value.bool false); refine (bool_any false _).mono ?_; rintro e wq ⟨rfl, hb⟩; have hb' := below_step (w := w) (by go_grown) hb; have hs := hb'.size; have KFr : wq.cell? ⟨w.heap.size, 0, none⟩ = some (.int .i64 0) ∧ wq.cell? ⟨w.heap.size, 1, none⟩ = some (.int .u64 lo) ∧ wq.cell? ⟨w.heap.size, 2, none⟩ = some (.int .u64 hi) ∧ (∀ o, wq.frozen? ⟨w.heap.size, o, none⟩ = false) := ⟨keep_cell hb (by first | (simp [go_sem]; done) | (simp [go_sem, KFr]; done) | (simp [go_sem, KFr, World.cell?_alloc_some]; done) | (simp [go_sem, KFr, frozen?_alloc_cells]; done)), keep_cell hb (by first | (simp [go_sem]; done) | (simp [go_sem, KFr]; done) | (simp [go_sem, KFr, World.cell?_alloc_some]; done) | (simp [go_sem, KFr, frozen?_alloc_cells]; done)), keep_cell hb (by first | (simp [go_sem]; done) | (simp [go_sem, KFr]; done) | (simp [go_sem, KFr, World.cell?_alloc_some]; done) | (simp [go_sem, KFr, frozen?_alloc_cells]; done)), keep_frozen2 hb (by first | (simp [go_sem]; done) | (simp [go_sem, KFr]; done) | (simp [go_sem, KFr, World.cell?_alloc_some]; done) | (simp [go_sem, KFr, frozen?_alloc_cells]; done)) (by first | (simp [go_sem]; done) | (simp [go_sem, KFr]; done) | (simp [go_sem, KFr, World.cell?_alloc_some]; done) | (simp [go_sem, KFr, frozen?_alloc_cells]; done))⟩; have KFrz0 : w.heap.size < wq.heap.size := World.block_lt_of_cell? _ _ KFr.1; clear hb) | (go_at_call_of 33 (Value.bool true); refine (bool_any true _).mono ?_; rintro e wq ⟨rfl, hb⟩; have hb' := below_step (w := w) (by go_grown) hb; have hs := hb'.size; have KFr : wq.cell? ⟨w.heap.size, 0, none⟩ = some (.int .i64 0) ∧ wq.cell? ⟨w.heap.size, 1, none⟩ = some (.int .u64 lo) ∧ wq.cell? ⟨w.heap.size, 2, none⟩ = some (.int .u64 hi) ∧ (∀ o, wq.frozen? ⟨w.heap.size, o, none⟩ = false) := ⟨keep_cell hb (by first | (simp [go_sem]; done) | (simp [go_sem, KFr]; done) | (simp [go_sem, KFr, World.cell?_alloc_some]; done) | (simp [go_sem, KFr, frozen?_alloc_cells]; done)), keep_cell hb (by first | (simp [go_sem]; done) | (simp [go_sem, KFr]; done) | (simp [go_sem, KFr, World.cell?_alloc_some]; done) | (simp [go_sem, KFr, frozen?_alloc_cells]; done)), keep_cell hb (by first | (simp [go_sem]; done) | (simp [go_sem, KFr]; done) | (simp [go_sem, KFr, World.cell?_alloc_some]; done) | (simp [go_sem, KFr, frozen?_alloc_cells]; done)), keep_frozen2 hb (by first | (simp [go_sem]; done) | (simp [go_sem, KFr]; done) | (simp [go_sem, KFr, World.cell?_alloc_some]; done) | (simp [go_sem, KFr, frozen?_alloc_cells]; done)) (by first | (simp [go_sem]; done) | (simp [go_sem, KFr]; done) | (simp [go_sem, KFr, World.cell?_alloc_some]; done) | (simp [go_sem, KFr, frozen?_alloc_cells]; done))⟩; have KFrz0 : w.heap.size < wq.heap.size := World.block_lt_of_cell? _ _ KFr.1; clear hb)))
    obtain ⟨-, -, -, -, hBq⟩ := ‹_ ∧ _ ∧ _ ∧ _ ∧ _›
    go_wp2_with fail
    go_ret
    exact ⟨rfl, by go_grown⟩
  · go_enter Try.func22, Try.ntmps22
    go_wp2_with fail
    go_region_with ((first | (go_at_call_of 33 (Value.bool false); refine (bool_any false _).mono ?_; rintro e wq ⟨rfl, hb⟩; have hb' := below_step (w := w) (by go_grown) hb; have hs := hb'.size; have KFr : wq.cell? ⟨w.heap.size, 0, none⟩ = some (.int .i64 0) ∧ wq.cell? ⟨w.heap.size, 1, none⟩ = some (.int .u64 lo) ∧ wq.cell? ⟨w.heap.size, 2, none⟩ = some (.int .u64 hi) ∧ (∀ o, wq.frozen? ⟨w.heap.size, o, none⟩ = false) := ⟨keep_cell hb (by first | (simp [go_sem]; done) | (simp [go_sem, KFr]; done) | (simp [go_sem, KFr, World.cell?_alloc_some]; done) | (simp [go_sem, KFr, frozen?_alloc_cells]; done)), keep_cell hb (by first | (simp [go_sem]; done) | (simp [go_sem, KFr]; done) | (simp [go_sem, KFr, World.cell?_alloc_some]; done) | (simp [go_sem, KFr, frozen?_alloc_cells]; done)), keep_cell hb (by first | (simp [go_sem]; done) | (simp [go_sem, KFr]; done) | (simp [go_sem, KFr, World.cell?_alloc_some]; done) | (simp [go_sem, KFr, frozen?_alloc_cells]; done)), keep_frozen2 hb (by first | (simp [go_sem]; done) | (simp [go_sem, KFr]; done) | (simp [go_sem, KFr, World.cell?_alloc_some]; done) | (simp [go_sem, KFr, frozen?_alloc_cells]; done)) (by first | (simp [go_sem]; done) | (simp [go_sem, KFr]; done) | (simp [go_sem, KFr, World.cell?_alloc_some]; done) | (simp [go_sem, KFr, frozen?_alloc_cells]; done))⟩; have KFrz0 : w.heap.size < wq.heap.size := World.block_lt_of_cell? _ _ KFr.1; clear hb) | (go_at_call_of 33 (Value.bool true); refine (bool_any true _).mono ?_; rintro e wq ⟨rfl, hb⟩; have hb' := below_step (w := w) (by go_grown) hb; have hs := hb'.size; have KFr : wq.cell? ⟨w.heap.size, 0, none⟩ = some (.int .i64 0) ∧ wq.cell? ⟨w.heap.size, 1, none⟩ = some (.int .u64 lo) ∧ wq.cell? ⟨w.heap.size, 2, none⟩ = some (.int .u64 hi) ∧ (∀ o, wq.frozen? ⟨w.heap.size, o, none⟩ = false) := ⟨keep_cell hb (by first | (simp [go_sem]; done) | (simp [go_sem, KFr]; done) | (simp [go_sem, KFr, World.cell?_alloc_some]; done) | (simp [go_sem, KFr, frozen?_alloc_cells]; done)), keep_cell hb (by first | (simp [go_sem]; done) | (simp [go_sem, KFr]; done) | (simp [go_sem, KFr, World.cell?_alloc_some]; done) | (simp [go_sem, KFr, frozen?_alloc_cells]; done)), keep_cell hb (by first | (simp [go_sem]; done) | (simp [go_sem, KFr]; done) | (simp [go_sem, KFr, World.cell?_alloc_some]; done) | (simp [go_sem, KFr, frozen?_alloc_cells]; done)), keep_frozen2 hb (by first | (simp [go_sem]; done) | (simp [go_sem, KFr]; done) | (simp [go_sem, KFr, World.cell?_alloc_some]; done) | (simp [go_sem, KFr, frozen?_alloc_cells]; done)) (by first | (simp [go_sem]; done) | (simp [go_sem, KFr]; done) | (simp [go_sem, KFr, World.cell?_alloc_some]; done) | (simp [go_sem, KFr, frozen?_alloc_cells]; done))⟩; have KFrz0 : w.heap.size < wq.heap.size := World.block_lt_of_cell? _ _ KFr.1; clear hb)))
    all_goals
      go_wp2_with fail
      go_ret
      exact ⟨rfl, by go_grown⟩
/-- A value that is right. -/
def rgt (w lo hi : Int) : Bool := decide (0 ≤ w) && decide (w ≤ 128) && (if w = 0 then (decide (lo = 0) && decide (hi = 0)) || (decide (lo = 1) && decide (hi = 0)) else decide (lo + 18446744073709551616 * hi < 2 ^ w.toNat))
theorem right_all {A lo hi : Int} (l0 : 0 ≤ lo) (l1 : lo < 18446744073709551616) (h0 : 0 ≤ hi) (h1 : hi < 18446744073709551616) (w : World) :
    Calls Try.prog 22 #[.agg #[.int .i64 A, .int .u64 lo, .int .u64 hi]] w fun e w' => e = .returned (.bool (rgt A lo hi)) ∧ Below w.heap.size w w' := by
  obtain ⟨N, hN⟩ : ∃ N : Nat, N = (lo + 18446744073709551616 * hi).toNat := ⟨_, rfl⟩
  have hN2 : N < 2 ^ 128 := by omega
  have el : lo = LO N := by unfold LO; omega
  have eh : hi = HI N := by unfold HI; omega
  by_cases ho : A < 0 ∨ 128 < A
  · have e : rgt A lo hi = false := by unfold rgt; rcases ho with h | h <;> simp [show ¬ 0 ≤ A ∨ ¬ A ≤ 128 from by omega] <;> omega
    rw [e, el, eh]
    exact right_out0 ho w
  · by_cases hz : A = 0
    · subst hz
      have e : rgt 0 lo hi = ((decide (lo = 0) && decide (hi = 0)) || (decide (lo = 1) && decide (hi = 0))) := by simp [rgt]
      rw [e]
      exact right_zero lo hi w
    · obtain ⟨W, rfl⟩ : ∃ W : Nat, A = W := ⟨A.toNat, by omega⟩
      have e : rgt (W : Int) lo hi = decide (N < 2 ^ W) := by
        unfold rgt
        rw [if_neg hz, show decide (0 ≤ (W : Int)) = true by simp, show decide ((W : Int) ≤ 128) = true by simp; omega, Int.toNat_natCast]
        simp only [Bool.true_and, decide_eq_decide]
        have e2 : ((2 : Int) ^ W) = ((2 ^ W : Nat) : Int) := by simp
        rw [e2]
        omega
      rw [e, el, eh]
      by_cases hlt : N < 2 ^ W
      · rw [show decide (N < 2 ^ W) = true by simp [hlt]]
        exact right_any ⟨by omega, by omega, hlt, rfl, rfl, rfl⟩ w
      · rw [show decide (N < 2 ^ W) = false by simp [hlt]]
        exact right_big0 (by omega) (by omega) hN2 hlt w
end Go.Proofs.Ytedldoobmmhloaa
