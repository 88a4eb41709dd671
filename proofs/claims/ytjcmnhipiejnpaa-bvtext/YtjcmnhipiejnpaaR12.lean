/- The walk of BvText. -/
import Derived.Test.YtjcmnhipiejnpaaT10
import Derived.Test.YtjcmnhipiejnpaaP0
namespace Go.Proofs.Ytjcmnhipiejnpaa
open Go.RowKit
set_option linter.unusedSimpArgs false
set_option linter.unusedVariables false

theorem eq_tx (K l h : Int) (w : World) : (binOp .eql 24 (.agg #[.int .i64 K, .int .u64 l, .int .u64 h]) (.agg #[.int .i64 K, .int .u64 l, .int .u64 h])).run Try.prog w = .ok (.bool true) w := by
  simp [go_sem]
theorem neq_tx (K l h : Int) (w : World) : (binOp .neq 24 (.agg #[.int .i64 K, .int .u64 l, .int .u64 h]) (.agg #[.int .i64 K, .int .u64 l, .int .u64 h])).run Try.prog w = .ok (.bool false) w := by
  simp [go_sem]

set_option maxRecDepth 100000 in
set_option maxHeartbeats 8000000 in
theorem walk_text (HK : ∀ wx, Calls Try.prog 9 #[] wx fun e w' => e = .returned (.bool true) ∧ Below wx.heap.size wx w') (A : Int) (N : Nat) (s st : ByteArray) (c : Bool)
    (r1 : ∀ wx, Calls Try.prog 10 #[.agg #[.int .i64 A, .int .u64 (LO (N)), .int .u64 (HI (N))]] wx fun e w' => e = .returned (.bool c) ∧ Below wx.heap.size wx w') (t1 : ∀ wx, Calls Try.prog 31 #[.agg #[.int .i64 A, .int .u64 (LO (N)), .int .u64 (HI (N))]] wx fun e w' => e = .returned (.string st) ∧ Below wx.heap.size wx w') (t2 : ∀ wx, Calls Try.prog 32 #[.agg #[.int .i64 A, .int .u64 (LO (N)), .int .u64 (HI (N))]] wx fun e w' => e = .returned (.string st) ∧ Below wx.heap.size wx w') (c0 : c = false → st = ⟨#[]⟩) (c1 : c = true → ∀ wx, Calls Try.prog 29 #[.string st] wx fun e w' => e = .returned (.tuple #[.agg #[.int .i64 A, .int .u64 (LO (N)), .int .u64 (HI (N))], .int .i64 0]) ∧ Below wx.heap.size wx w')
    (HP : s.size ≤ 400 → PPair s) (w : World) :
    Calls Try.prog 5 #[.agg #[.int .i64 A, .int .u64 (LO (N)), .int .u64 (HI (N))], .string s] w fun e w' => e = .returned (.bool true) ∧ Below w.heap.size w w' := by
  have HKH : Hid _ := HK
  have R1 : Hid _ := r1
  have T1 : Hid _ := t1
  have T2 : Hid _ := t2
  have C0 : Hid _ := c0
  have C1 : Hid _ := c1
  clear HK r1 t1 t2 c0 c1
  by_cases hs : s.size ≤ 400
  · obtain ⟨K, lo, hi, er, cP, dP⟩ := HP hs
    have BP : Hid _ := cP
    have DP : Hid _ := dP
    clear cP dP HP
    have hsI : ¬ ((400 : Int) < (s.size : Int)) := by omega
    have hqe := eq_tx
    have hqn := neq_tx
    go_enter Try.func5, Try.ntmps5
    go_wp2_with fail
    refine (HKH.out _).mono ?_
    rintro e w1 ⟨rfl, hb1⟩
    have hb1' := below_step (w := w) (by go_grown) hb1
    have hs1 := hb1'.size
    have KF1 : w1.cell? ⟨w.heap.size, 0, none⟩ = some (.int .i64 A) ∧ w1.cell? ⟨w.heap.size, 1, none⟩ = some (.int .u64 (LO N)) ∧ w1.cell? ⟨w.heap.size, 2, none⟩ = some (.int .u64 (HI N)) := ⟨keep_cell hb1 (by first | (simp [go_sem]; done)), keep_cell hb1 (by first | (simp [go_sem]; done)), keep_cell hb1 (by first | (simp [go_sem]; done))⟩; have KF1z0 : w.heap.size < w1.heap.size := World.block_lt_of_cell? _ _ KF1.1
    clear hb1
    go_wp2_with fail
    refine (BP.out _).mono ?_
    rintro e w2 ⟨rfl, hb2⟩
    have hb2' := below_step (w := w) (by go_grown) hb2
    have hs2 := hb2'.size
    have KF2 : w2.cell? ⟨w.heap.size, 0, none⟩ = some (.int .i64 A) ∧ w2.cell? ⟨w.heap.size, 1, none⟩ = some (.int .u64 (LO N)) ∧ w2.cell? ⟨w.heap.size, 2, none⟩ = some (.int .u64 (HI N)) := ⟨keep_cell hb2 (by first | (simp [go_sem]; done) | (simp [go_sem, KF1]; done) | (simp [go_sem, KF1, World.cell?_alloc_some]; done) | (simp [go_sem, KF1, frozen?_alloc_cells]; done)), keep_cell hb2 (by first | (simp [go_sem]; done) | (simp [go_sem, KF1]; done) | (simp [go_sem, KF1, World.cell?_alloc_some]; done) | (simp [go_sem, KF1, frozen?_alloc_cells]; done)), keep_cell hb2 (by first | (simp [go_sem]; done) | (simp [go_sem, KF1]; done) | (simp [go_sem, KF1, World.cell?_alloc_some]; done) | (simp [go_sem, KF1, frozen?_alloc_cells]; done))⟩; have KF2z0 : w.heap.size < w2.heap.size := World.block_lt_of_cell? _ _ KF2.1
    clear hb2 KF1
    go_wp2_with fail
    refine (DP.out _).mono ?_
    rintro e w3 ⟨rfl, hb3⟩
    have hb3' := below_step (w := w) (by go_grown) hb3
    have hs3 := hb3'.size
    have KF3 : w3.cell? ⟨w.heap.size, 0, none⟩ = some (.int .i64 A) ∧ w3.cell? ⟨w.heap.size, 1, none⟩ = some (.int .u64 (LO N)) ∧ w3.cell? ⟨w.heap.size, 2, none⟩ = some (.int .u64 (HI N)) ∧ w3.cell? ⟨w2.heap.size, 0, none⟩ = some (.int .i64 K) ∧ w3.cell? ⟨w2.heap.size, 1, none⟩ = some (.int .u64 lo) ∧ w3.cell? ⟨w2.heap.size, 2, none⟩ = some (.int .u64 hi) ∧ (∀ o, w3.frozen? ⟨w2.heap.size, o, none⟩ = false) := ⟨keep_cell hb3 (by first | (simp [go_sem]; done) | (simp [go_sem, KF2]; done) | (simp [go_sem, KF2, World.cell?_alloc_some]; done) | (simp [go_sem, KF2, frozen?_alloc_cells]; done)), keep_cell hb3 (by first | (simp [go_sem]; done) | (simp [go_sem, KF2]; done) | (simp [go_sem, KF2, World.cell?_alloc_some]; done) | (simp [go_sem, KF2, frozen?_alloc_cells]; done)), keep_cell hb3 (by first | (simp [go_sem]; done) | (simp [go_sem, KF2]; done) | (simp [go_sem, KF2, World.cell?_alloc_some]; done) | (simp [go_sem, KF2, frozen?_alloc_cells]; done)), keep_cell hb3 (by first | (simp [go_sem]; done) | (simp [go_sem, KF2]; done) | (simp [go_sem, KF2, World.cell?_alloc_some]; done) | (simp [go_sem, KF2, frozen?_alloc_cells]; done)), keep_cell hb3 (by first | (simp [go_sem]; done) | (simp [go_sem, KF2]; done) | (simp [go_sem, KF2, World.cell?_alloc_some]; done) | (simp [go_sem, KF2, frozen?_alloc_cells]; done)), keep_cell hb3 (by first | (simp [go_sem]; done) | (simp [go_sem, KF2]; done) | (simp [go_sem, KF2, World.cell?_alloc_some]; done) | (simp [go_sem, KF2, frozen?_alloc_cells]; done)), keep_frozen2 hb3 (by first | (simp [go_sem]; done) | (simp [go_sem, KF2]; done) | (simp [go_sem, KF2, World.cell?_alloc_some]; done) | (simp [go_sem, KF2, frozen?_alloc_cells]; done)) (by first | (simp [go_sem]; done) | (simp [go_sem, KF2]; done) | (simp [go_sem, KF2, World.cell?_alloc_some]; done) | (simp [go_sem, KF2, frozen?_alloc_cells]; done))⟩; have KF3z0 : w.heap.size < w3.heap.size := World.block_lt_of_cell? _ _ KF3.1; have KF3z1 : w2.heap.size < w3.heap.size := World.block_lt_of_cell? _ _ KF3.2.2.2.1
    clear hb3 KF2
    go_wp2_with fail
    go_region_held3 (fun x => x.cell? ⟨w.heap.size, 0, none⟩ = some (.int .i64 A) ∧ x.cell? ⟨w.heap.size, 1, none⟩ = some (.int .u64 (LO N)) ∧ x.cell? ⟨w.heap.size, 2, none⟩ = some (.int .u64 (HI N)) ∧ x.cell? ⟨w2.heap.size, 0, none⟩ = some (.int .i64 K) ∧ x.cell? ⟨w2.heap.size, 1, none⟩ = some (.int .u64 lo) ∧ x.cell? ⟨w2.heap.size, 2, none⟩ = some (.int .u64 hi) ∧ (∀ o, x.frozen? ⟨w2.heap.size, o, none⟩ = false) ∧ x.cell? ⟨w3.heap.size, 0, none⟩ = some (.int .i64 K) ∧ x.cell? ⟨w3.heap.size, 1, none⟩ = some (.int .u64 lo) ∧ x.cell? ⟨w3.heap.size, 2, none⟩ = some (.int .u64 hi) ∧ (∀ o, x.frozen? ⟨w3.heap.size, o, none⟩ = false) ∧ Below w.heap.size w x)
      ((refine ⟨?_, ?_, ?_, ?_, ?_, ?_, ?_, ?_, ?_, ?_, ?_, ?_⟩ <;> first | (simp [go_sem]; done) | (refine cv_some ?_; simp [go_sem]; done) | (simp [go_sem, KFr, KFrz0, KFrz1, KFrz2]; done) | (refine cv_some ?_; simp [go_sem, KFr, KFrz0, KFrz1, KFrz2]; done) | (simp [go_sem, KF3, KF3z0, KF3z1]; done) | (refine cv_some ?_; simp [go_sem, KF3, KF3z0, KF3z1]; done) | (refine put_below ?_ ?_ <;> first | assumption | omega) | (have hH := ‹_ ∧ _ ∧ _ ∧ _ ∧ _ ∧ _ ∧ _ ∧ _ ∧ _ ∧ _ ∧ _ ∧ _›; exact put_below hH.2.2.2.2.2.2.2.2.2.2.2 (by omega)) | go_grown))
      ((first | (go_at_call 31; refine (T1.out _).mono ?_; rintro e wq ⟨rfl, hb⟩; have hb' := below_step (w := w) (by go_grown) hb; have hs := hb'.size; have KFr : wq.cell? ⟨w.heap.size, 0, none⟩ = some (.int .i64 A) ∧ wq.cell? ⟨w.heap.size, 1, none⟩ = some (.int .u64 (LO N)) ∧ wq.cell? ⟨w.heap.size, 2, none⟩ = some (.int .u64 (HI N)) ∧ wq.cell? ⟨w2.heap.size, 0, none⟩ = some (.int .i64 K) ∧ wq.cell? ⟨w2.heap.size, 1, none⟩ = some (.int .u64 lo) ∧ wq.cell? ⟨w2.heap.size, 2, none⟩ = some (.int .u64 hi) ∧ (∀ o, wq.frozen? ⟨w2.heap.size, o, none⟩ = false) ∧ wq.cell? ⟨w3.heap.size, 0, none⟩ = some (.int .i64 K) ∧ wq.cell? ⟨w3.heap.size, 1, none⟩ = some (.int .u64 lo) ∧ wq.cell? ⟨w3.heap.size, 2, none⟩ = some (.int .u64 hi) ∧ (∀ o, wq.frozen? ⟨w3.heap.size, o, none⟩ = false) := ⟨keep_cell hb (by first | (simp [go_sem]; done) | (simp [go_sem, KFr]; done) | (simp [go_sem, KF3]; done) | (simp [go_sem, KFr, World.cell?_alloc_some]; done) | (simp [go_sem, KF3, World.cell?_alloc_some]; done) | (simp [go_sem, KFr, frozen?_alloc_cells]; done) | (simp [go_sem, KF3, frozen?_alloc_cells]; done)), keep_cell hb (by first | (simp [go_sem]; done) | (simp [go_sem, KFr]; done) | (simp [go_sem, KF3]; done) | (simp [go_sem, KFr, World.cell?_alloc_some]; done) | (simp [go_sem, KF3, World.cell?_alloc_some]; done) | (simp [go_sem, KFr, frozen?_alloc_cells]; done) | (simp [go_sem, KF3, frozen?_alloc_cells]; done)), keep_cell hb (by first | (simp [go_sem]; done) | (simp [go_sem, KFr]; done) | (simp [go_sem, KF3]; done) | (simp [go_sem, KFr, World.cell?_alloc_some]; done) | (simp [go_sem, KF3, World.cell?_alloc_some]; done) | (simp [go_sem, KFr, frozen?_alloc_cells]; done) | (simp [go_sem, KF3, frozen?_alloc_cells]; done)), keep_cell hb (by first | (simp [go_sem]; done) | (simp [go_sem, KFr]; done) | (simp [go_sem, KF3]; done) | (simp [go_sem, KFr, World.cell?_alloc_some]; done) | (simp [go_sem, KF3, World.cell?_alloc_some]; done) | (simp [go_sem, KFr, frozen?_alloc_cells]; done) | (simp [go_sem, KF3, frozen?_alloc_cells]; done)), keep_cell hb (by first | (simp [go_sem]; done) | (simp [go_sem, KFr]; done) | (simp [go_sem, KF3]; done) | (simp [go_sem, KFr, World.cell?_alloc_some]; done) | (simp [go_sem, KF3, World.cell?_alloc_some]; done) | (simp [go_sem, KFr, frozen?_alloc_cells]; done) | (simp [go_sem, KF3, frozen?_alloc_cells]; done)), keep_cell hb (by first | (simp [go_sem]; done) | (simp [go_sem, KFr]; done) | (simp [go_sem, KF3]; done) | (simp [go_sem, KFr, World.cell?_alloc_some]; done) | (simp [go_sem, KF3, World.cell?_alloc_some]; done) | (simp [go_sem, KFr, frozen?_alloc_cells]; done) | (simp [go_sem, KF3, frozen?_alloc_cells]; done)), keep_frozen2 hb (by first | (simp [go_sem]; done) | (simp [go_sem, KFr]; done) | (simp [go_sem, KF3]; done) | (simp [go_sem, KFr, World.cell?_alloc_some]; done) | (simp [go_sem, KF3, World.cell?_alloc_some]; done) | (simp [go_sem, KFr, frozen?_alloc_cells]; done) | (simp [go_sem, KF3, frozen?_alloc_cells]; done)) (by first | (simp [go_sem]; done) | (simp [go_sem, KFr]; done) | (simp [go_sem, KF3]; done) | (simp [go_sem, KFr, World.cell?_alloc_some]; done) | (simp [go_sem, KF3, World.cell?_alloc_some]; done) | (simp [go_sem, KFr, frozen?_alloc_cells]; done) | (simp [go_sem, KF3, frozen?_alloc_cells]; done)), keep_cell hb (by first | (simp [go_sem]; done) | (simp [go_sem, KFr]; done) | (simp [go_sem, KF3]; done) | (simp [go_sem, KFr, World.cell?_alloc_some]; done) | (simp [go_sem, KF3, World.cell?_alloc_some]; done) | (simp [go_sem, KFr, frozen?_alloc_cells]; done) | (simp [go_sem, KF3, frozen?_alloc_cells]; done)), keep_cell hb (by first | (simp [go_sem]; done) | (simp [go_sem, KFr]; done) | (simp [go_sem, KF3]; done) | (simp [go_sem, KFr, World.cell?_alloc_some]; done) | (simp [go_sem, KF3, World.cell?_alloc_some]; done) | (simp [go_sem, KFr, frozen?_alloc_cells]; done) | (simp [go_sem, KF3, frozen?_alloc_cells]; done)), keep_cell hb (by first | (simp [go_sem]; done) | (simp [go_sem, KFr]; done) | (simp [go_sem, KF3]; done) | (simp [go_sem, KFr, World.cell?_alloc_some]; done) | (simp [go_sem, KF3, World.cell?_alloc_some]; done) | (simp [go_sem, KFr, frozen?_alloc_cells]; done) | (simp [go_sem, KF3, frozen?_alloc_cells]; done)), keep_frozen2 hb (by first | (simp [go_sem]; done) | (simp [go_sem, KFr]; done) | (simp [go_sem, KF3]; done) | (simp [go_sem, KFr, World.cell?_alloc_some]; done) | (simp [go_sem, KF3, World.cell?_alloc_some]; done) | (simp [go_sem, KFr, frozen?_alloc_cells]; done) | (simp [go_sem, KF3, frozen?_alloc_cells]; done)) (by first | (simp [go_sem]; done) | (simp [go_sem, KFr]; done) | (simp [go_sem, KF3]; done) | (simp [go_sem, KFr, World.cell?_alloc_some]; done) | (simp [go_sem, KF3, World.cell?_alloc_some]; done) | (simp [go_sem, KFr, frozen?_alloc_cells]; done) | (simp [go_sem, KF3, frozen?_alloc_cells]; done))⟩; have KFrz0 : w.heap.size < wq.heap.size := World.block_lt_of_cell? _ _ KFr.1; have KFrz1 : w2.heap.size < wq.heap.size := World.block_lt_of_cell? _ _ KFr.2.2.2.1; have KFrz2 : w3.heap.size < wq.heap.size := World.block_lt_of_cell? _ _ KFr.2.2.2.2.2.2.2.1; clear hb) | (go_at_call 32; refine (T2.out _).mono ?_; rintro e wq ⟨rfl, hb⟩; have hb' := below_step (w := w) (by go_grown) hb; have hs := hb'.size; have KFr : wq.cell? ⟨w.heap.size, 0, none⟩ = some (.int .i64 A) ∧ wq.cell? ⟨w.heap.size, 1, none⟩ = some (.int .u64 (LO N)) ∧ wq.cell? ⟨w.heap.size, 2, none⟩ = some (.int .u64 (HI N)) ∧ wq.cell? ⟨w2.heap.size, 0, none⟩ = some (.int .i64 K) ∧ wq.cell? ⟨w2.heap.size, 1, none⟩ = some (.int .u64 lo) ∧ wq.cell? ⟨w2.heap.size, 2, none⟩ = some (.int .u64 hi) ∧ (∀ o, wq.frozen? ⟨w2.heap.size, o, none⟩ = false) ∧ wq.cell? ⟨w3.heap.size, 0, none⟩ = some (.int .i64 K) ∧ wq.cell? ⟨w3.heap.size, 1, none⟩ = some (.int .u64 lo) ∧ wq.cell? ⟨w3.heap.size, 2, none⟩ = some (.int .u64 hi) ∧ (∀ o, wq.frozen? ⟨w3.heap.size, o, none⟩ = false) := ⟨keep_cell hb (by first | (simp [go_sem]; done) | (simp [go_sem, KFr]; done) | (simp [go_sem, KF3]; done) | (simp [go_sem, KFr, World.cell?_alloc_some]; done) | (simp [go_sem, KF3, World.cell?_alloc_some]; done) | (simp [go_sem, KFr, frozen?_alloc_cells]; done) | (simp [go_sem, KF3, frozen?_alloc_cells]; done)), keep_cell hb (by first | (simp [go_sem]; done) | (simp [go_sem, KFr]; done) | (simp [go_sem, KF3]; done) | (simp [go_sem, KFr, World.cell?_alloc_some]; done) | (simp [go_sem, KF3, World.cell?_alloc_some]; done) | (simp [go_sem, KFr, frozen?_alloc_cells]; done) | (simp [go_sem, KF3, frozen?_alloc_cells]; done)), keep_cell hb (by first | (simp [go_sem]; done) | (simp [go_sem, KFr]; done) | (simp [go_sem, KF3]; done) | (simp [go_sem, KFr, World.cell?_alloc_some]; done) | (simp [go_sem, KF3, World.cell?_alloc_some]; done) | (simp [go_sem, KFr, frozen?_alloc_cells]; done) | (simp [go_sem, KF3, frozen?_alloc_cells]; done)), keep_cell hb (by first | (simp [go_sem]; done) | (simp [go_sem, KFr]; done) | (simp [go_sem, KF3]; done) | (simp [go_sem, KFr, World.cell?_alloc_some]; done) | (simp [go_sem, KF3, World.cell?_alloc_some]; done) | (simp [go_sem, KFr, frozen?_alloc_cells]; done) | (simp [go_sem, KF3, frozen?_alloc_cells]; done)), keep_cell hb (by first | (simp [go_sem]; done) | (simp [go_sem, KFr]; done) | (simp [go_sem, KF3]; done) | (simp [go_sem, KFr, World.cell?_alloc_some]; done) | (simp [go_sem, KF3, World.cell?_alloc_some]; done) | (simp [go_sem, KFr, frozen?_alloc_cells]; done) | (simp [go_sem, KF3, frozen?_alloc_cells]; done)), keep_cell hb (by first | (simp [go_sem]; done) | (simp [go_sem, KFr]; done) | (simp [go_sem, KF3]; done) | (simp [go_sem, KFr, World.cell?_alloc_some]; done) | (simp [go_sem, KF3, World.cell?_alloc_some]; done) | (simp [go_sem, KFr, frozen?_alloc_cells]; done) | (simp [go_sem, KF3, frozen?_alloc_cells]; done)), keep_frozen2 hb (by first | (simp [go_sem]; done) | (simp [go_sem, KFr]; done) | (simp [go_sem, KF3]; done) | (simp [go_sem, KFr, World.cell?_alloc_some]; done) | (simp [go_sem, KF3, World.cell?_alloc_some]; done) | (simp [go_sem, KFr, frozen?_alloc_cells]; done) | (simp [go_sem, KF3, frozen?_alloc_cells]; done)) (by first | (simp [go_sem]; done) | (simp [go_sem, KFr]; done) | (simp [go_sem, KF3]; done) | (simp [go_sem, KFr, World.cell?_alloc_some]; done) | (simp [go_sem, KF3, World.cell?_alloc_some]; done) | (simp [go_sem, KFr, frozen?_alloc_cells]; done) | (simp [go_sem, KF3, frozen?_alloc_cells]; done)), keep_cell hb (by first | (simp [go_sem]; done) | (simp [go_sem, KFr]; done) | (simp [go_sem, KF3]; done) | (simp [go_sem, KFr, World.cell?_alloc_some]; done) | (simp [go_sem, KF3, World.cell?_alloc_some]; done) | (simp [go_sem, KFr, frozen?_alloc_cells]; done) | (simp [go_sem, KF3, frozen?_alloc_cells]; done)), keep_cell hb (by first | (simp [go_sem]; done) | (simp [go_sem, KFr]; done) | (simp [go_sem, KF3]; done) | (simp [go_sem, KFr, World.cell?_alloc_some]; done) | (simp [go_sem, KF3, World.cell?_alloc_some]; done) | (simp [go_sem, KFr, frozen?_alloc_cells]; done) | (simp [go_sem, KF3, frozen?_alloc_cells]; done)), keep_cell hb (by first | (simp [go_sem]; done) | (simp [go_sem, KFr]; done) | (simp [go_sem, KF3]; done) | (simp [go_sem, KFr, World.cell?_alloc_some]; done) | (simp [go_sem, KF3, World.cell?_alloc_some]; done) | (simp [go_sem, KFr, frozen?_alloc_cells]; done) | (simp [go_sem, KF3, frozen?_alloc_cells]; done)), keep_frozen2 hb (by first | (simp [go_sem]; done) | (simp [go_sem, KFr]; done) | (simp [go_sem, KF3]; done) | (simp [go_sem, KFr, World.cell?_alloc_some]; done) | (simp [go_sem, KF3, World.cell?_alloc_some]; done) | (simp [go_sem, KFr, frozen?_alloc_cells]; done) | (simp [go_sem, KF3, frozen?_alloc_cells]; done)) (by first | (simp [go_sem]; done) | (simp [go_sem, KFr]; done) | (simp [go_sem, KF3]; done) | (simp [go_sem, KFr, World.cell?_alloc_some]; done) | (simp [go_sem, KF3, World.cell?_alloc_some]; done) | (simp [go_sem, KFr, frozen?_alloc_cells]; done) | (simp [go_sem, KF3, frozen?_alloc_cells]; done))⟩; have KFrz0 : w.heap.size < wq.heap.size := World.block_lt_of_cell? _ _ KFr.1; have KFrz1 : w2.heap.size < wq.heap.size := World.block_lt_of_cell? _ _ KFr.2.2.2.1; have KFrz2 : w3.heap.size < wq.heap.size := World.block_lt_of_cell? _ _ KFr.2.2.2.2.2.2.2.1; clear hb)))
    obtain ⟨-, -, -, -, -, -, -, -, -, -, -, hBq⟩ := ‹_ ∧ _ ∧ _ ∧ _ ∧ _ ∧ _ ∧ _ ∧ _ ∧ _ ∧ _ ∧ _ ∧ _›
    clear KF3 KF3z0 KF3z1 hb1' hb2' hb3' hs1 hs2 hs3
    cases c
    · have hst : st = ⟨#[]⟩ := C0.out rfl
      subst hst
      go_wp2_with fail
      refine (R1.out _).mono ?_
      rintro e w4 ⟨rfl, hb4⟩
      have hb4' := below_step (w := w) (by go_grown) hb4
      have hs4 := hb4'.size
      have KF4 : w4.cell? ⟨w.heap.size, 0, none⟩ = some (.int .i64 A) ∧ w4.cell? ⟨w.heap.size, 1, none⟩ = some (.int .u64 (LO N)) ∧ w4.cell? ⟨w.heap.size, 2, none⟩ = some (.int .u64 (HI N)) := ⟨keep_cell hb4 (by first | (simp [go_sem]; done) | (simp [go_sem, KFr]; done) | (simp [go_sem, KFr, World.cell?_alloc_some]; done) | (simp [go_sem, KFr, frozen?_alloc_cells]; done)), keep_cell hb4 (by first | (simp [go_sem]; done) | (simp [go_sem, KFr]; done) | (simp [go_sem, KFr, World.cell?_alloc_some]; done) | (simp [go_sem, KFr, frozen?_alloc_cells]; done)), keep_cell hb4 (by first | (simp [go_sem]; done) | (simp [go_sem, KFr]; done) | (simp [go_sem, KFr, World.cell?_alloc_some]; done) | (simp [go_sem, KFr, frozen?_alloc_cells]; done))⟩; have KF4z0 : w.heap.size < w4.heap.size := World.block_lt_of_cell? _ _ KF4.1
      clear hb4 KFr
      go_wp2_with fail
      refine (T1.out _).mono ?_
      rintro e w5 ⟨rfl, hb5⟩
      have hb5' := below_step (w := w) (by go_grown) hb5
      have hs5 := hb5'.size
      have KF5 : w5.cell? ⟨w.heap.size, 0, none⟩ = some (.int .i64 A) ∧ w5.cell? ⟨w.heap.size, 1, none⟩ = some (.int .u64 (LO N)) ∧ w5.cell? ⟨w.heap.size, 2, none⟩ = some (.int .u64 (HI N)) := ⟨keep_cell hb5 (by first | (simp [go_sem]; done) | (simp [go_sem, KF4]; done) | (simp [go_sem, KF4, World.cell?_alloc_some]; done) | (simp [go_sem, KF4, frozen?_alloc_cells]; done)), keep_cell hb5 (by first | (simp [go_sem]; done) | (simp [go_sem, KF4]; done) | (simp [go_sem, KF4, World.cell?_alloc_some]; done) | (simp [go_sem, KF4, frozen?_alloc_cells]; done)), keep_cell hb5 (by first | (simp [go_sem]; done) | (simp [go_sem, KF4]; done) | (simp [go_sem, KF4, World.cell?_alloc_some]; done) | (simp [go_sem, KF4, frozen?_alloc_cells]; done))⟩; have KF5z0 : w.heap.size < w5.heap.size := World.block_lt_of_cell? _ _ KF5.1
      clear hb5 KF4
      go_wp2_with fail
      go_ret
      exact ⟨rfl, by go_grown⟩
    · have BK : Hid _ := C1.out rfl
      go_wp2_with fail
      refine (R1.out _).mono ?_
      rintro e w6 ⟨rfl, hb6⟩
      have hb6' := below_step (w := w) (by go_grown) hb6
      have hs6 := hb6'.size
      have KF6 : w6.cell? ⟨w.heap.size, 0, none⟩ = some (.int .i64 A) ∧ w6.cell? ⟨w.heap.size, 1, none⟩ = some (.int .u64 (LO N)) ∧ w6.cell? ⟨w.heap.size, 2, none⟩ = some (.int .u64 (HI N)) := ⟨keep_cell hb6 (by first | (simp [go_sem]; done) | (simp [go_sem, KFr]; done) | (simp [go_sem, KFr, World.cell?_alloc_some]; done) | (simp [go_sem, KFr, frozen?_alloc_cells]; done)), keep_cell hb6 (by first | (simp [go_sem]; done) | (simp [go_sem, KFr]; done) | (simp [go_sem, KFr, World.cell?_alloc_some]; done) | (simp [go_sem, KFr, frozen?_alloc_cells]; done)), keep_cell hb6 (by first | (simp [go_sem]; done) | (simp [go_sem, KFr]; done) | (simp [go_sem, KFr, World.cell?_alloc_some]; done) | (simp [go_sem, KFr, frozen?_alloc_cells]; done))⟩; have KF6z0 : w.heap.size < w6.heap.size := World.block_lt_of_cell? _ _ KF6.1
      clear hb6 KFr
      go_wp2_with fail
      refine (T1.out _).mono ?_
      rintro e w7 ⟨rfl, hb7⟩
      have hb7' := below_step (w := w) (by go_grown) hb7
      have hs7 := hb7'.size
      have KF7 : w7.cell? ⟨w.heap.size, 0, none⟩ = some (.int .i64 A) ∧ w7.cell? ⟨w.heap.size, 1, none⟩ = some (.int .u64 (LO N)) ∧ w7.cell? ⟨w.heap.size, 2, none⟩ = some (.int .u64 (HI N)) := ⟨keep_cell hb7 (by first | (simp [go_sem]; done) | (simp [go_sem, KF6]; done) | (simp [go_sem, KF6, World.cell?_alloc_some]; done) | (simp [go_sem, KF6, frozen?_alloc_cells]; done)), keep_cell hb7 (by first | (simp [go_sem]; done) | (simp [go_sem, KF6]; done) | (simp [go_sem, KF6, World.cell?_alloc_some]; done) | (simp [go_sem, KF6, frozen?_alloc_cells]; done)), keep_cell hb7 (by first | (simp [go_sem]; done) | (simp [go_sem, KF6]; done) | (simp [go_sem, KF6, World.cell?_alloc_some]; done) | (simp [go_sem, KF6, frozen?_alloc_cells]; done))⟩; have KF7z0 : w.heap.size < w7.heap.size := World.block_lt_of_cell? _ _ KF7.1
      clear hb7 KF6
      go_wp2_with fail
      refine (BK.out _).mono ?_
      rintro e w8 ⟨rfl, hb8⟩
      have hb8' := below_step (w := w) (by go_grown) hb8
      have hs8 := hb8'.size
      have KF8 : w8.cell? ⟨w.heap.size, 0, none⟩ = some (.int .i64 A) ∧ w8.cell? ⟨w.heap.size, 1, none⟩ = some (.int .u64 (LO N)) ∧ w8.cell? ⟨w.heap.size, 2, none⟩ = some (.int .u64 (HI N)) := ⟨keep_cell hb8 (by first | (simp [go_sem]; done) | (simp [go_sem, KF7]; done) | (simp [go_sem, KF7, World.cell?_alloc_some]; done) | (simp [go_sem, KF7, frozen?_alloc_cells]; done)), keep_cell hb8 (by first | (simp [go_sem]; done) | (simp [go_sem, KF7]; done) | (simp [go_sem, KF7, World.cell?_alloc_some]; done) | (simp [go_sem, KF7, frozen?_alloc_cells]; done)), keep_cell hb8 (by first | (simp [go_sem]; done) | (simp [go_sem, KF7]; done) | (simp [go_sem, KF7, World.cell?_alloc_some]; done) | (simp [go_sem, KF7, frozen?_alloc_cells]; done))⟩; have KF8z0 : w.heap.size < w8.heap.size := World.block_lt_of_cell? _ _ KF8.1
      clear hb8 KF7
      go_wp2_with fail
      go_ret
      exact ⟨rfl, by go_grown⟩
  · have hsI : (400 : Int) < (s.size : Int) := by omega
    go_enter Try.func5, Try.ntmps5
    go_wp2_with fail
    refine (HKH.out _).mono ?_
    rintro e w1 ⟨rfl, hb1⟩
    have hb1' := below_step (w := w) (by go_grown) hb1
    have hs1 := hb1'.size
    have KF1 : w1.cell? ⟨w.heap.size, 0, none⟩ = some (.int .i64 A) ∧ w1.cell? ⟨w.heap.size, 1, none⟩ = some (.int .u64 (LO N)) ∧ w1.cell? ⟨w.heap.size, 2, none⟩ = some (.int .u64 (HI N)) := ⟨keep_cell hb1 (by first | (simp [go_sem]; done)), keep_cell hb1 (by first | (simp [go_sem]; done)), keep_cell hb1 (by first | (simp [go_sem]; done))⟩; have KF1z0 : w.heap.size < w1.heap.size := World.block_lt_of_cell? _ _ KF1.1
    clear hb1
    go_wp2_with fail
    go_ret
    exact ⟨rfl, by go_grown⟩
end Go.Proofs.Ytjcmnhipiejnpaa
