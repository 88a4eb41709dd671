/- Contracts: operators on two words that answer a word, as the program's face tells them, and as the laws ask for them. -/
import Derived.Test.YtjcmnhipiejnpaaI
import Derived.Test.YtjcmnhipiejnpaaE
namespace Go.Proofs.Ytjcmnhipiejnpaa
open Go.RowKit
set_option linter.unusedSimpArgs false
set_option linter.unusedVariables false

set_option maxHeartbeats 1000000 in
theorem two_bitwise {W n m N : Nat} {op : Int} (hop : op = 12 ∨ op = 13 ∨ op = 14 ∨ op = 15 ∨ op = 16 ∨ op = 17) (h1 : 1 ≤ W) (h2 : W ≤ 128) (hn : n < 2 ^ W) (hn' : m < 2 ^ W) (HC : Hid (∀ wx, Calls Try.prog 55 #[.int .i64 op, .agg #[.int .i64 W, .int .u64 (LO (n)), .int .u64 (HI (n))], .agg #[.int .i64 W, .int .u64 (LO (m)), .int .u64 (HI (m))]] wx fun e w' => e = .returned (.agg #[.int .i64 W, .int .u64 (LO (N)), .int .u64 (HI (N))]) ∧ Below wx.heap.size wx w')) (w : World) :
    Calls Try.prog 42 #[.int .i64 op, .agg #[.int .i64 W, .int .u64 (LO (n)), .int .u64 (HI (n))], .agg #[.int .i64 W, .int .u64 (LO (m)), .int .u64 (HI (m))]] w fun e w' => e = .returned (.tuple #[.agg #[.int .i64 W, .int .u64 (LO (N)), .int .u64 (HI (N))], .int .i64 0]) ∧ Below w.heap.size w w' := by
  rcases hop with rfl | rfl | rfl | rfl | rfl | rfl
  all_goals
    go_enter Try.func42, Try.ntmps42
    go_wp2_with fail
    refine (isWord_any (Wd.mk' h1 h2 hn) _).mono ?_
    rintro e w1 ⟨rfl, hb1⟩
    have hb1' := below_step (w := w) (by go_grown) hb1
    have hs1 := hb1'.size
    have KF1 : w1.cell? ⟨w.heap.size, 0, none⟩ = some (.int .i64 W) ∧ w1.cell? ⟨w.heap.size, 1, none⟩ = some (.int .u64 (LO (n))) ∧ w1.cell? ⟨w.heap.size, 2, none⟩ = some (.int .u64 (HI (n))) ∧ (∀ o, w1.frozen? ⟨w.heap.size, o, none⟩ = false) ∧ w1.cell? ⟨w.heap.size + 1, 0, none⟩ = some (.int .i64 W) ∧ w1.cell? ⟨w.heap.size + 1, 1, none⟩ = some (.int .u64 (LO (m))) ∧ w1.cell? ⟨w.heap.size + 1, 2, none⟩ = some (.int .u64 (HI (m))) ∧ (∀ o, w1.frozen? ⟨w.heap.size + 1, o, none⟩ = false) ∧ w1.cell? ⟨w.heap.size + 1 + 1, 0, none⟩ = some (cv w1 ⟨w.heap.size + 1 + 1, 0, none⟩) ∧ w1.cell? ⟨w.heap.size + 1 + 1, 1, none⟩ = some (cv w1 ⟨w.heap.size + 1 + 1, 1, none⟩) ∧ w1.cell? ⟨w.heap.size + 1 + 1, 2, none⟩ = some (cv w1 ⟨w.heap.size + 1 + 1, 2, none⟩) ∧ (∀ o, w1.frozen? ⟨w.heap.size + 1 + 1, o, none⟩ = false) := ⟨keep_cell hb1 (by first | (simp [go_sem]; done)), keep_cell hb1 (by first | (simp [go_sem]; done)), keep_cell hb1 (by first | (simp [go_sem]; done)), keep_frozen2 hb1 (by first | (simp [go_sem]; done)) (by first | (simp [go_sem]; done)), keep_cell hb1 (by first | (simp [go_sem]; done)), keep_cell hb1 (by first | (simp [go_sem]; done)), keep_cell hb1 (by first | (simp [go_sem]; done)), keep_frozen2 hb1 (by first | (simp [go_sem]; done)) (by first | (simp [go_sem]; done)), keep_some hb1 (by first | (simp [go_sem]; done)), keep_some hb1 (by first | (simp [go_sem]; done)), keep_some hb1 (by first | (simp [go_sem]; done)), keep_frozen2 hb1 (by first | (simp [go_sem]; done)) (by first | (simp [go_sem]; done))⟩; have KF1z0 : w.heap.size < w1.heap.size := World.block_lt_of_cell? _ _ KF1.1; have KF1z1 : w.heap.size + 1 < w1.heap.size := World.block_lt_of_cell? _ _ KF1.2.2.2.2.1; have KF1z2 : w.heap.size + 1 + 1 < w1.heap.size := World.block_lt_of_cell? _ _ KF1.2.2.2.2.2.2.2.2.1
    clear hb1
    go_wp2_with fail
    refine (isWord_any (Wd.mk' h1 h2 hn') _).mono ?_
    rintro e w2 ⟨rfl, hb2⟩
    have hb2' := below_step (w := w) (by go_grown) hb2
    have hs2 := hb2'.size
    have KF2 : w2.cell? ⟨w.heap.size, 0, none⟩ = some (.int .i64 W) ∧ w2.cell? ⟨w.heap.size, 1, none⟩ = some (.int .u64 (LO (n))) ∧ w2.cell? ⟨w.heap.size, 2, none⟩ = some (.int .u64 (HI (n))) ∧ (∀ o, w2.frozen? ⟨w.heap.size, o, none⟩ = false) ∧ w2.cell? ⟨w.heap.size + 1, 0, none⟩ = some (.int .i64 W) ∧ w2.cell? ⟨w.heap.size + 1, 1, none⟩ = some (.int .u64 (LO (m))) ∧ w2.cell? ⟨w.heap.size + 1, 2, none⟩ = some (.int .u64 (HI (m))) ∧ (∀ o, w2.frozen? ⟨w.heap.size + 1, o, none⟩ = false) ∧ w2.cell? ⟨w.heap.size + 1 + 1, 0, none⟩ = some (cv w2 ⟨w.heap.size + 1 + 1, 0, none⟩) ∧ w2.cell? ⟨w.heap.size + 1 + 1, 1, none⟩ = some (cv w2 ⟨w.heap.size + 1 + 1, 1, none⟩) ∧ w2.cell? ⟨w.heap.size + 1 + 1, 2, none⟩ = some (cv w2 ⟨w.heap.size + 1 + 1, 2, none⟩) ∧ (∀ o, w2.frozen? ⟨w.heap.size + 1 + 1, o, none⟩ = false) := ⟨keep_cell hb2 (by first | (simp [go_sem]; done) | (simp [go_sem, KF1]; done) | (simp [go_sem, KF1, World.cell?_alloc_some]; done) | (simp [go_sem, KF1, frozen?_alloc_cells]; done)), keep_cell hb2 (by first | (simp [go_sem]; done) | (simp [go_sem, KF1]; done) | (simp [go_sem, KF1, World.cell?_alloc_some]; done) | (simp [go_sem, KF1, frozen?_alloc_cells]; done)), keep_cell hb2 (by first | (simp [go_sem]; done) | (simp [go_sem, KF1]; done) | (simp [go_sem, KF1, World.cell?_alloc_some]; done) | (simp [go_sem, KF1, frozen?_alloc_cells]; done)), keep_frozen2 hb2 (by first | (simp [go_sem]; done) | (simp [go_sem, KF1]; done) | (simp [go_sem, KF1, World.cell?_alloc_some]; done) | (simp [go_sem, KF1, frozen?_alloc_cells]; done)) (by first | (simp [go_sem]; done) | (simp [go_sem, KF1]; done) | (simp [go_sem, KF1, World.cell?_alloc_some]; done) | (simp [go_sem, KF1, frozen?_alloc_cells]; done)), keep_cell hb2 (by first | (simp [go_sem]; done) | (simp [go_sem, KF1]; done) | (simp [go_sem, KF1, World.cell?_alloc_some]; done) | (simp [go_sem, KF1, frozen?_alloc_cells]; done)), keep_cell hb2 (by first | (simp [go_sem]; done) | (simp [go_sem, KF1]; done) | (simp [go_sem, KF1, World.cell?_alloc_some]; done) | (simp [go_sem, KF1, frozen?_alloc_cells]; done)), keep_cell hb2 (by first | (simp [go_sem]; done) | (simp [go_sem, KF1]; done) | (simp [go_sem, KF1, World.cell?_alloc_some]; done) | (simp [go_sem, KF1, frozen?_alloc_cells]; done)), keep_frozen2 hb2 (by first | (simp [go_sem]; done) | (simp [go_sem, KF1]; done) | (simp [go_sem, KF1, World.cell?_alloc_some]; done) | (simp [go_sem, KF1, frozen?_alloc_cells]; done)) (by first | (simp [go_sem]; done) | (simp [go_sem, KF1]; done) | (simp [go_sem, KF1, World.cell?_alloc_some]; done) | (simp [go_sem, KF1, frozen?_alloc_cells]; done)), keep_some hb2 (by first | (simp [go_sem]; done) | (simp [go_sem, KF1]; done) | (simp [go_sem, KF1, World.cell?_alloc_some]; done) | (simp [go_sem, KF1, frozen?_alloc_cells]; done)), keep_some hb2 (by first | (simp [go_sem]; done) | (simp [go_sem, KF1]; done) | (simp [go_sem, KF1, World.cell?_alloc_some]; done) | (simp [go_sem, KF1, frozen?_alloc_cells]; done)), keep_some hb2 (by first | (simp [go_sem]; done) | (simp [go_sem, KF1]; done) | (simp [go_sem, KF1, World.cell?_alloc_some]; done) | (simp [go_sem, KF1, frozen?_alloc_cells]; done)), keep_frozen2 hb2 (by first | (simp [go_sem]; done) | (simp [go_sem, KF1]; done) | (simp [go_sem, KF1, World.cell?_alloc_some]; done) | (simp [go_sem, KF1, frozen?_alloc_cells]; done)) (by first | (simp [go_sem]; done) | (simp [go_sem, KF1]; done) | (simp [go_sem, KF1, World.cell?_alloc_some]; done) | (simp [go_sem, KF1, frozen?_alloc_cells]; done))⟩; have KF2z0 : w.heap.size < w2.heap.size := World.block_lt_of_cell? _ _ KF2.1; have KF2z1 : w.heap.size + 1 < w2.heap.size := World.block_lt_of_cell? _ _ KF2.2.2.2.2.1; have KF2z2 : w.heap.size + 1 + 1 < w2.heap.size := World.block_lt_of_cell? _ _ KF2.2.2.2.2.2.2.2.2.1
    clear hb2 KF1
    go_wp2_with fail
    refine (HC.out _).mono ?_
    rintro e w3 ⟨rfl, hb3⟩
    have hb3' := below_step (w := w) (by go_grown) hb3
    have hs3 := hb3'.size
    have KF3 : w3.cell? ⟨w.heap.size, 0, none⟩ = some (.int .i64 W) ∧ w3.cell? ⟨w.heap.size, 1, none⟩ = some (.int .u64 (LO (n))) ∧ w3.cell? ⟨w.heap.size, 2, none⟩ = some (.int .u64 (HI (n))) ∧ (∀ o, w3.frozen? ⟨w.heap.size, o, none⟩ = false) ∧ w3.cell? ⟨w.heap.size + 1, 0, none⟩ = some (.int .i64 W) ∧ w3.cell? ⟨w.heap.size + 1, 1, none⟩ = some (.int .u64 (LO (m))) ∧ w3.cell? ⟨w.heap.size + 1, 2, none⟩ = some (.int .u64 (HI (m))) ∧ (∀ o, w3.frozen? ⟨w.heap.size + 1, o, none⟩ = false) ∧ w3.cell? ⟨w.heap.size + 1 + 1, 0, none⟩ = some (cv w3 ⟨w.heap.size + 1 + 1, 0, none⟩) ∧ w3.cell? ⟨w.heap.size + 1 + 1, 1, none⟩ = some (cv w3 ⟨w.heap.size + 1 + 1, 1, none⟩) ∧ w3.cell? ⟨w.heap.size + 1 + 1, 2, none⟩ = some (cv w3 ⟨w.heap.size + 1 + 1, 2, none⟩) ∧ (∀ o, w3.frozen? ⟨w.heap.size + 1 + 1, o, none⟩ = false) := ⟨keep_cell hb3 (by first | (simp [go_sem]; done) | (simp [go_sem, KF2]; done) | (simp [go_sem, KF2, World.cell?_alloc_some]; done) | (simp [go_sem, KF2, frozen?_alloc_cells]; done)), keep_cell hb3 (by first | (simp [go_sem]; done) | (simp [go_sem, KF2]; done) | (simp [go_sem, KF2, World.cell?_alloc_some]; done) | (simp [go_sem, KF2, frozen?_alloc_cells]; done)), keep_cell hb3 (by first | (simp [go_sem]; done) | (simp [go_sem, KF2]; done) | (simp [go_sem, KF2, World.cell?_alloc_some]; done) | (simp [go_sem, KF2, frozen?_alloc_cells]; done)), keep_frozen2 hb3 (by first | (simp [go_sem]; done) | (simp [go_sem, KF2]; done) | (simp [go_sem, KF2, World.cell?_alloc_some]; done) | (simp [go_sem, KF2, frozen?_alloc_cells]; done)) (by first | (simp [go_sem]; done) | (simp [go_sem, KF2]; done) | (simp [go_sem, KF2, World.cell?_alloc_some]; done) | (simp [go_sem, KF2, frozen?_alloc_cells]; done)), keep_cell hb3 (by first | (simp [go_sem]; done) | (simp [go_sem, KF2]; done) | (simp [go_sem, KF2, World.cell?_alloc_some]; done) | (simp [go_sem, KF2, frozen?_alloc_cells]; done)), keep_cell hb3 (by first | (simp [go_sem]; done) | (simp [go_sem, KF2]; done) | (simp [go_sem, KF2, World.cell?_alloc_some]; done) | (simp [go_sem, KF2, frozen?_alloc_cells]; done)), keep_cell hb3 (by first | (simp [go_sem]; done) | (simp [go_sem, KF2]; done) | (simp [go_sem, KF2, World.cell?_alloc_some]; done) | (simp [go_sem, KF2, frozen?_alloc_cells]; done)), keep_frozen2 hb3 (by first | (simp [go_sem]; done) | (simp [go_sem, KF2]; done) | (simp [go_sem, KF2, World.cell?_alloc_some]; done) | (simp [go_sem, KF2, frozen?_alloc_cells]; done)) (by first | (simp [go_sem]; done) | (simp [go_sem, KF2]; done) | (simp [go_sem, KF2, World.cell?_alloc_some]; done) | (simp [go_sem, KF2, frozen?_alloc_cells]; done)), keep_some hb3 (by first | (simp [go_sem]; done) | (simp [go_sem, KF2]; done) | (simp [go_sem, KF2, World.cell?_alloc_some]; done) | (simp [go_sem, KF2, frozen?_alloc_cells]; done)), keep_some hb3 (by first | (simp [go_sem]; done) | (simp [go_sem, KF2]; done) | (simp [go_sem, KF2, World.cell?_alloc_some]; done) | (simp [go_sem, KF2, frozen?_alloc_cells]; done)), keep_some hb3 (by first | (simp [go_sem]; done) | (simp [go_sem, KF2]; done) | (simp [go_sem, KF2, World.cell?_alloc_some]; done) | (simp [go_sem, KF2, frozen?_alloc_cells]; done)), keep_frozen2 hb3 (by first | (simp [go_sem]; done) | (simp [go_sem, KF2]; done) | (simp [go_sem, KF2, World.cell?_alloc_some]; done) | (simp [go_sem, KF2, frozen?_alloc_cells]; done)) (by first | (simp [go_sem]; done) | (simp [go_sem, KF2]; done) | (simp [go_sem, KF2, World.cell?_alloc_some]; done) | (simp [go_sem, KF2, frozen?_alloc_cells]; done))⟩; have KF3z0 : w.heap.size < w3.heap.size := World.block_lt_of_cell? _ _ KF3.1; have KF3z1 : w.heap.size + 1 < w3.heap.size := World.block_lt_of_cell? _ _ KF3.2.2.2.2.1; have KF3z2 : w.heap.size + 1 + 1 < w3.heap.size := World.block_lt_of_cell? _ _ KF3.2.2.2.2.2.2.2.2.1
    clear hb3 KF2
    go_wp2_with fail
    refine bodyPost_ret (v := .tuple #[.agg #[.int .i64 W, .int .u64 (LO (N)), .int .u64 (HI (N))], .int .i64 0]) (by simp [results, Try.results42, go_sem, *]) rfl ?_
    exact ⟨rfl, by go_grown⟩

set_option maxHeartbeats 1000000 in
theorem two_arith {W n m N : Nat} {op : Int} (hop : op = 18 ∨ op = 19 ∨ op = 20) (h1 : 1 ≤ W) (h2 : W ≤ 128) (hn : n < 2 ^ W) (hn' : m < 2 ^ W) (HC : Hid (∀ wx, Calls Try.prog 66 #[.int .i64 op, .agg #[.int .i64 W, .int .u64 (LO (n)), .int .u64 (HI (n))], .agg #[.int .i64 W, .int .u64 (LO (m)), .int .u64 (HI (m))]] wx fun e w' => e = .returned (.agg #[.int .i64 W, .int .u64 (LO (N)), .int .u64 (HI (N))]) ∧ Below wx.heap.size wx w')) (w : World) :
    Calls Try.prog 42 #[.int .i64 op, .agg #[.int .i64 W, .int .u64 (LO (n)), .int .u64 (HI (n))], .agg #[.int .i64 W, .int .u64 (LO (m)), .int .u64 (HI (m))]] w fun e w' => e = .returned (.tuple #[.agg #[.int .i64 W, .int .u64 (LO (N)), .int .u64 (HI (N))], .int .i64 0]) ∧ Below w.heap.size w w' := by
  rcases hop with rfl | rfl | rfl
  all_goals
    go_enter Try.func42, Try.ntmps42
    go_wp2_with fail
    refine (isWord_any (Wd.mk' h1 h2 hn) _).mono ?_
    rintro e w1 ⟨rfl, hb1⟩
    have hb1' := below_step (w := w) (by go_grown) hb1
    have hs1 := hb1'.size
    have KF1 : w1.cell? ⟨w.heap.size, 0, none⟩ = some (.int .i64 W) ∧ w1.cell? ⟨w.heap.size, 1, none⟩ = some (.int .u64 (LO (n))) ∧ w1.cell? ⟨w.heap.size, 2, none⟩ = some (.int .u64 (HI (n))) ∧ (∀ o, w1.frozen? ⟨w.heap.size, o, none⟩ = false) ∧ w1.cell? ⟨w.heap.size + 1, 0, none⟩ = some (.int .i64 W) ∧ w1.cell? ⟨w.heap.size + 1, 1, none⟩ = some (.int .u64 (LO (m))) ∧ w1.cell? ⟨w.heap.size + 1, 2, none⟩ = some (.int .u64 (HI (m))) ∧ (∀ o, w1.frozen? ⟨w.heap.size + 1, o, none⟩ = false) ∧ w1.cell? ⟨w.heap.size + 1 + 1, 0, none⟩ = some (cv w1 ⟨w.heap.size + 1 + 1, 0, none⟩) ∧ w1.cell? ⟨w.heap.size + 1 + 1, 1, none⟩ = some (cv w1 ⟨w.heap.size + 1 + 1, 1, none⟩) ∧ w1.cell? ⟨w.heap.size + 1 + 1, 2, none⟩ = some (cv w1 ⟨w.heap.size + 1 + 1, 2, none⟩) ∧ (∀ o, w1.frozen? ⟨w.heap.size + 1 + 1, o, none⟩ = false) := ⟨keep_cell hb1 (by first | (simp [go_sem]; done)), keep_cell hb1 (by first | (simp [go_sem]; done)), keep_cell hb1 (by first | (simp [go_sem]; done)), keep_frozen2 hb1 (by first | (simp [go_sem]; done)) (by first | (simp [go_sem]; done)), keep_cell hb1 (by first | (simp [go_sem]; done)), keep_cell hb1 (by first | (simp [go_sem]; done)), keep_cell hb1 (by first | (simp [go_sem]; done)), keep_frozen2 hb1 (by first | (simp [go_sem]; done)) (by first | (simp [go_sem]; done)), keep_some hb1 (by first | (simp [go_sem]; done)), keep_some hb1 (by first | (simp [go_sem]; done)), keep_some hb1 (by first | (simp [go_sem]; done)), keep_frozen2 hb1 (by first | (simp [go_sem]; done)) (by first | (simp [go_sem]; done))⟩; have KF1z0 : w.heap.size < w1.heap.size := World.block_lt_of_cell? _ _ KF1.1; have KF1z1 : w.heap.size + 1 < w1.heap.size := World.block_lt_of_cell? _ _ KF1.2.2.2.2.1; have KF1z2 : w.heap.size + 1 + 1 < w1.heap.size := World.block_lt_of_cell? _ _ KF1.2.2.2.2.2.2.2.2.1
    clear hb1
    go_wp2_with fail
    refine (isWord_any (Wd.mk' h1 h2 hn') _).mono ?_
    rintro e w2 ⟨rfl, hb2⟩
    have hb2' := below_step (w := w) (by go_grown) hb2
    have hs2 := hb2'.size
    have KF2 : w2.cell? ⟨w.heap.size, 0, none⟩ = some (.int .i64 W) ∧ w2.cell? ⟨w.heap.size, 1, none⟩ = some (.int .u64 (LO (n))) ∧ w2.cell? ⟨w.heap.size, 2, none⟩ = some (.int .u64 (HI (n))) ∧ (∀ o, w2.frozen? ⟨w.heap.size, o, none⟩ = false) ∧ w2.cell? ⟨w.heap.size + 1, 0, none⟩ = some (.int .i64 W) ∧ w2.cell? ⟨w.heap.size + 1, 1, none⟩ = some (.int .u64 (LO (m))) ∧ w2.cell? ⟨w.heap.size + 1, 2, none⟩ = some (.int .u64 (HI (m))) ∧ (∀ o, w2.frozen? ⟨w.heap.size + 1, o, none⟩ = false) ∧ w2.cell? ⟨w.heap.size + 1 + 1, 0, none⟩ = some (cv w2 ⟨w.heap.size + 1 + 1, 0, none⟩) ∧ w2.cell? ⟨w.heap.size + 1 + 1, 1, none⟩ = some (cv w2 ⟨w.heap.size + 1 + 1, 1, none⟩) ∧ w2.cell? ⟨w.heap.size + 1 + 1, 2, none⟩ = some (cv w2 ⟨w.heap.size + 1 + 1, 2, none⟩) ∧ (∀ o, w2.frozen? ⟨w.heap.size + 1 + 1, o, none⟩ = false) := ⟨keep_cell hb2 (by first | (simp [go_sem]; done) | (simp [go_sem, KF1]; done) | (simp [go_sem, KF1, World.cell?_alloc_some]; done) | (simp [go_sem, KF1, frozen?_alloc_cells]; done)), keep_cell hb2 (by first | (simp [go_sem]; done) | (simp [go_sem, KF1]; done) | (simp [go_sem, KF1, World.cell?_alloc_some]; done) | (simp [go_sem, KF1, frozen?_alloc_cells]; done)), keep_cell hb2 (by first | (simp [go_sem]; done) | (simp [go_sem, KF1]; done) | (simp [go_sem, KF1, World.cell?_alloc_some]; done) | (simp [go_sem, KF1, frozen?_alloc_cells]; done)), keep_frozen2 hb2 (by first | (simp [go_sem]; done) | (simp [go_sem, KF1]; done) | (simp [go_sem, KF1, World.cell?_alloc_some]; done) | (simp [go_sem, KF1, frozen?_alloc_cells]; done)) (by first | (simp [go_sem]; done) | (simp [go_sem, KF1]; done) | (simp [go_sem, KF1, World.cell?_alloc_some]; done) | (simp [go_sem, KF1, frozen?_alloc_cells]; done)), keep_cell hb2 (by first | (simp [go_sem]; done) | (simp [go_sem, KF1]; done) | (simp [go_sem, KF1, World.cell?_alloc_some]; done) | (simp [go_sem, KF1, frozen?_alloc_cells]; done)), keep_cell hb2 (by first | (simp [go_sem]; done) | (simp [go_sem, KF1]; done) | (simp [go_sem, KF1, World.cell?_alloc_some]; done) | (simp [go_sem, KF1, frozen?_alloc_cells]; done)), keep_cell hb2 (by first | (simp [go_sem]; done) | (simp [go_sem, KF1]; done) | (simp [go_sem, KF1, World.cell?_alloc_some]; done) | (simp [go_sem, KF1, frozen?_alloc_cells]; done)), keep_frozen2 hb2 (by first | (simp [go_sem]; done) | (simp [go_sem, KF1]; done) | (simp [go_sem, KF1, World.cell?_alloc_some]; done) | (simp [go_sem, KF1, frozen?_alloc_cells]; done)) (by first | (simp [go_sem]; done) | (simp [go_sem, KF1]; done) | (simp [go_sem, KF1, World.cell?_alloc_some]; done) | (simp [go_sem, KF1, frozen?_alloc_cells]; done)), keep_some hb2 (by first | (simp [go_sem]; done) | (simp [go_sem, KF1]; done) | (simp [go_sem, KF1, World.cell?_alloc_some]; done) | (simp [go_sem, KF1, frozen?_alloc_cells]; done)), keep_some hb2 (by first | (simp [go_sem]; done) | (simp [go_sem, KF1]; done) | (simp [go_sem, KF1, World.cell?_alloc_some]; done) | (simp [go_sem, KF1, frozen?_alloc_cells]; done)), keep_some hb2 (by first | (simp [go_sem]; done) | (simp [go_sem, KF1]; done) | (simp [go_sem, KF1, World.cell?_alloc_some]; done) | (simp [go_sem, KF1, frozen?_alloc_cells]; done)), keep_frozen2 hb2 (by first | (simp [go_sem]; done) | (simp [go_sem, KF1]; done) | (simp [go_sem, KF1, World.cell?_alloc_some]; done) | (simp [go_sem, KF1, frozen?_alloc_cells]; done)) (by first | (simp [go_sem]; done) | (simp [go_sem, KF1]; done) | (simp [go_sem, KF1, World.cell?_alloc_some]; done) | (simp [go_sem, KF1, frozen?_alloc_cells]; done))⟩; have KF2z0 : w.heap.size < w2.heap.size := World.block_lt_of_cell? _ _ KF2.1; have KF2z1 : w.heap.size + 1 < w2.heap.size := World.block_lt_of_cell? _ _ KF2.2.2.2.2.1; have KF2z2 : w.heap.size + 1 + 1 < w2.heap.size := World.block_lt_of_cell? _ _ KF2.2.2.2.2.2.2.2.2.1
    clear hb2 KF1
    go_wp2_with fail
    refine (HC.out _).mono ?_
    rintro e w3 ⟨rfl, hb3⟩
    have hb3' := below_step (w := w) (by go_grown) hb3
    have hs3 := hb3'.size
    have KF3 : w3.cell? ⟨w.heap.size, 0, none⟩ = some (.int .i64 W) ∧ w3.cell? ⟨w.heap.size, 1, none⟩ = some (.int .u64 (LO (n))) ∧ w3.cell? ⟨w.heap.size, 2, none⟩ = some (.int .u64 (HI (n))) ∧ (∀ o, w3.frozen? ⟨w.heap.size, o, none⟩ = false) ∧ w3.cell? ⟨w.heap.size + 1, 0, none⟩ = some (.int .i64 W) ∧ w3.cell? ⟨w.heap.size + 1, 1, none⟩ = some (.int .u64 (LO (m))) ∧ w3.cell? ⟨w.heap.size + 1, 2, none⟩ = some (.int .u64 (HI (m))) ∧ (∀ o, w3.frozen? ⟨w.heap.size + 1, o, none⟩ = false) ∧ w3.cell? ⟨w.heap.size + 1 + 1, 0, none⟩ = some (cv w3 ⟨w.heap.size + 1 + 1, 0, none⟩) ∧ w3.cell? ⟨w.heap.size + 1 + 1, 1, none⟩ = some (cv w3 ⟨w.heap.size + 1 + 1, 1, none⟩) ∧ w3.cell? ⟨w.heap.size + 1 + 1, 2, none⟩ = some (cv w3 ⟨w.heap.size + 1 + 1, 2, none⟩) ∧ (∀ o, w3.frozen? ⟨w.heap.size + 1 + 1, o, none⟩ = false) := ⟨keep_cell hb3 (by first | (simp [go_sem]; done) | (simp [go_sem, KF2]; done) | (simp [go_sem, KF2, World.cell?_alloc_some]; done) | (simp [go_sem, KF2, frozen?_alloc_cells]; done)), keep_cell hb3 (by first | (simp [go_sem]; done) | (simp [go_sem, KF2]; done) | (simp [go_sem, KF2, World.cell?_alloc_some]; done) | (simp [go_sem, KF2, frozen?_alloc_cells]; done)), keep_cell hb3 (by first | (simp [go_sem]; done) | (simp [go_sem, KF2]; done) | (simp [go_sem, KF2, World.cell?_alloc_some]; done) | (simp [go_sem, KF2, frozen?_alloc_cells]; done)), keep_frozen2 hb3 (by first | (simp [go_sem]; done) | (simp [go_sem, KF2]; done) | (simp [go_sem, KF2, World.cell?_alloc_some]; done) | (simp [go_sem, KF2, frozen?_alloc_cells]; done)) (by first | (simp [go_sem]; done) | (simp [go_sem, KF2]; done) | (simp [go_sem, KF2, World.cell?_alloc_some]; done) | (simp [go_sem, KF2, frozen?_alloc_cells]; done)), keep_cell hb3 (by first | (simp [go_sem]; done) | (simp [go_sem, KF2]; done) | (simp [go_sem, KF2, World.cell?_alloc_some]; done) | (simp [go_sem, KF2, frozen?_alloc_cells]; done)), keep_cell hb3 (by first | (simp [go_sem]; done) | (simp [go_sem, KF2]; done) | (simp [go_sem, KF2, World.cell?_alloc_some]; done) | (simp [go_sem, KF2, frozen?_alloc_cells]; done)), keep_cell hb3 (by first | (simp [go_sem]; done) | (simp [go_sem, KF2]; done) | (simp [go_sem, KF2, World.cell?_alloc_some]; done) | (simp [go_sem, KF2, frozen?_alloc_cells]; done)), keep_frozen2 hb3 (by first | (simp [go_sem]; done) | (simp [go_sem, KF2]; done) | (simp [go_sem, KF2, World.cell?_alloc_some]; done) | (simp [go_sem, KF2, frozen?_alloc_cells]; done)) (by first | (simp [go_sem]; done) | (simp [go_sem, KF2]; done) | (simp [go_sem, KF2, World.cell?_alloc_some]; done) | (simp [go_sem, KF2, frozen?_alloc_cells]; done)), keep_some hb3 (by first | (simp [go_sem]; done) | (simp [go_sem, KF2]; done) | (simp [go_sem, KF2, World.cell?_alloc_some]; done) | (simp [go_sem, KF2, frozen?_alloc_cells]; done)), keep_some hb3 (by first | (simp [go_sem]; done) | (simp [go_sem, KF2]; done) | (simp [go_sem, KF2, World.cell?_alloc_some]; done) | (simp [go_sem, KF2, frozen?_alloc_cells]; done)), keep_some hb3 (by first | (simp [go_sem]; done) | (simp [go_sem, KF2]; done) | (simp [go_sem, KF2, World.cell?_alloc_some]; done) | (simp [go_sem, KF2, frozen?_alloc_cells]; done)), keep_frozen2 hb3 (by first | (simp [go_sem]; done) | (simp [go_sem, KF2]; done) | (simp [go_sem, KF2, World.cell?_alloc_some]; done) | (simp [go_sem, KF2, frozen?_alloc_cells]; done)) (by first | (simp [go_sem]; done) | (simp [go_sem, KF2]; done) | (simp [go_sem, KF2, World.cell?_alloc_some]; done) | (simp [go_sem, KF2, frozen?_alloc_cells]; done))⟩; have KF3z0 : w.heap.size < w3.heap.size := World.block_lt_of_cell? _ _ KF3.1; have KF3z1 : w.heap.size + 1 < w3.heap.size := World.block_lt_of_cell? _ _ KF3.2.2.2.2.1; have KF3z2 : w.heap.size + 1 + 1 < w3.heap.size := World.block_lt_of_cell? _ _ KF3.2.2.2.2.2.2.2.2.1
    clear hb3 KF2
    go_wp2_with fail
    refine bodyPost_ret (v := .tuple #[.agg #[.int .i64 W, .int .u64 (LO (N)), .int .u64 (HI (N))], .int .i64 0]) (by simp [results, Try.results42, go_sem, *]) rfl ?_
    exact ⟨rfl, by go_grown⟩

set_option maxHeartbeats 1000000 in
theorem two_unsigned {W n m N : Nat} {op : Int} (hop : op = 21 ∨ op = 22) (h1 : 1 ≤ W) (h2 : W ≤ 128) (hn : n < 2 ^ W) (hn' : m < 2 ^ W) (HC : Hid (∀ wx, Calls Try.prog 67 #[.int .i64 op, .agg #[.int .i64 W, .int .u64 (LO (n)), .int .u64 (HI (n))], .agg #[.int .i64 W, .int .u64 (LO (m)), .int .u64 (HI (m))]] wx fun e w' => e = .returned (.agg #[.int .i64 W, .int .u64 (LO (N)), .int .u64 (HI (N))]) ∧ Below wx.heap.size wx w')) (w : World) :
    Calls Try.prog 42 #[.int .i64 op, .agg #[.int .i64 W, .int .u64 (LO (n)), .int .u64 (HI (n))], .agg #[.int .i64 W, .int .u64 (LO (m)), .int .u64 (HI (m))]] w fun e w' => e = .returned (.tuple #[.agg #[.int .i64 W, .int .u64 (LO (N)), .int .u64 (HI (N))], .int .i64 0]) ∧ Below w.heap.size w w' := by
  rcases hop with rfl | rfl
  all_goals
    go_enter Try.func42, Try.ntmps42
    go_wp2_with fail
    refine (isWord_any (Wd.mk' h1 h2 hn) _).mono ?_
    rintro e w1 ⟨rfl, hb1⟩
    have hb1' := below_step (w := w) (by go_grown) hb1
    have hs1 := hb1'.size
    have KF1 : w1.cell? ⟨w.heap.size, 0, none⟩ = some (.int .i64 W) ∧ w1.cell? ⟨w.heap.size, 1, none⟩ = some (.int .u64 (LO (n))) ∧ w1.cell? ⟨w.heap.size, 2, none⟩ = some (.int .u64 (HI (n))) ∧ (∀ o, w1.frozen? ⟨w.heap.size, o, none⟩ = false) ∧ w1.cell? ⟨w.heap.size + 1, 0, none⟩ = some (.int .i64 W) ∧ w1.cell? ⟨w.heap.size + 1, 1, none⟩ = some (.int .u64 (LO (m))) ∧ w1.cell? ⟨w.heap.size + 1, 2, none⟩ = some (.int .u64 (HI (m))) ∧ (∀ o, w1.frozen? ⟨w.heap.size + 1, o, none⟩ = false) ∧ w1.cell? ⟨w.heap.size + 1 + 1, 0, none⟩ = some (cv w1 ⟨w.heap.size + 1 + 1, 0, none⟩) ∧ w1.cell? ⟨w.heap.size + 1 + 1, 1, none⟩ = some (cv w1 ⟨w.heap.size + 1 + 1, 1, none⟩) ∧ w1.cell? ⟨w.heap.size + 1 + 1, 2, none⟩ = some (cv w1 ⟨w.heap.size + 1 + 1, 2, none⟩) ∧ (∀ o, w1.frozen? ⟨w.heap.size + 1 + 1, o, none⟩ = false) := ⟨keep_cell hb1 (by first | (simp [go_sem]; done)), keep_cell hb1 (by first | (simp [go_sem]; done)), keep_cell hb1 (by first | (simp [go_sem]; done)), keep_frozen2 hb1 (by first | (simp [go_sem]; done)) (by first | (simp [go_sem]; done)), keep_cell hb1 (by first | (simp [go_sem]; done)), keep_cell hb1 (by first | (simp [go_sem]; done)), keep_cell hb1 (by first | (simp [go_sem]; done)), keep_frozen2 hb1 (by first | (simp [go_sem]; done)) (by first | (simp [go_sem]; done)), keep_some hb1 (by first | (simp [go_sem]; done)), keep_some hb1 (by first | (simp [go_sem]; done)), keep_some hb1 (by first | (simp [go_sem]; done)), keep_frozen2 hb1 (by first | (simp [go_sem]; done)) (by first | (simp [go_sem]; done))⟩; have KF1z0 : w.heap.size < w1.heap.size := World.block_lt_of_cell? _ _ KF1.1; have KF1z1 : w.heap.size + 1 < w1.heap.size := World.block_lt_of_cell? _ _ KF1.2.2.2.2.1; have KF1z2 : w.heap.size + 1 + 1 < w1.heap.size := World.block_lt_of_cell? _ _ KF1.2.2.2.2.2.2.2.2.1
    clear hb1
    go_wp2_with fail
    refine (isWord_any (Wd.mk' h1 h2 hn') _).mono ?_
    rintro e w2 ⟨rfl, hb2⟩
    have hb2' := below_step (w := w) (by go_grown) hb2
    have hs2 := hb2'.size
    have KF2 : w2.cell? ⟨w.heap.size, 0, none⟩ = some (.int .i64 W) ∧ w2.cell? ⟨w.heap.size, 1, none⟩ = some (.int .u64 (LO (n))) ∧ w2.cell? ⟨w.heap.size, 2, none⟩ = some (.int .u64 (HI (n))) ∧ (∀ o, w2.frozen? ⟨w.heap.size, o, none⟩ = false) ∧ w2.cell? ⟨w.heap.size + 1, 0, none⟩ = some (.int .i64 W) ∧ w2.cell? ⟨w.heap.size + 1, 1, none⟩ = some (.int .u64 (LO (m))) ∧ w2.cell? ⟨w.heap.size + 1, 2, none⟩ = some (.int .u64 (HI (m))) ∧ (∀ o, w2.frozen? ⟨w.heap.size + 1, o, none⟩ = false) ∧ w2.cell? ⟨w.heap.size + 1 + 1, 0, none⟩ = some (cv w2 ⟨w.heap.size + 1 + 1, 0, none⟩) ∧ w2.cell? ⟨w.heap.size + 1 + 1, 1, none⟩ = some (cv w2 ⟨w.heap.size + 1 + 1, 1, none⟩) ∧ w2.cell? ⟨w.heap.size + 1 + 1, 2, none⟩ = some (cv w2 ⟨w.heap.size + 1 + 1, 2, none⟩) ∧ (∀ o, w2.frozen? ⟨w.heap.size + 1 + 1, o, none⟩ = false) := ⟨keep_cell hb2 (by first | (simp [go_sem]; done) | (simp [go_sem, KF1]; done) | (simp [go_sem, KF1, World.cell?_alloc_some]; done) | (simp [go_sem, KF1, frozen?_alloc_cells]; done)), keep_cell hb2 (by first | (simp [go_sem]; done) | (simp [go_sem, KF1]; done) | (simp [go_sem, KF1, World.cell?_alloc_some]; done) | (simp [go_sem, KF1, frozen?_alloc_cells]; done)), keep_cell hb2 (by first | (simp [go_sem]; done) | (simp [go_sem, KF1]; done) | (simp [go_sem, KF1, World.cell?_alloc_some]; done) | (simp [go_sem, KF1, frozen?_alloc_cells]; done)), keep_frozen2 hb2 (by first | (simp [go_sem]; done) | (simp [go_sem, KF1]; done) | (simp [go_sem, KF1, World.cell?_alloc_some]; done) | (simp [go_sem, KF1, frozen?_alloc_cells]; done)) (by first | (simp [go_sem]; done) | (simp [go_sem, KF1]; done) | (simp [go_sem, KF1, World.cell?_alloc_some]; done) | (simp [go_sem, KF1, frozen?_alloc_cells]; done)), keep_cell hb2 (by first | (simp [go_sem]; done) | (simp [go_sem, KF1]; done) | (simp [go_sem, KF1, World.cell?_alloc_some]; done) | (simp [go_sem, KF1, frozen?_alloc_cells]; done)), keep_cell hb2 (by first | (simp [go_sem]; done) | (simp [go_sem, KF1]; done) | (simp [go_sem, KF1, World.cell?_alloc_some]; done) | (simp [go_sem, KF1, frozen?_alloc_cells]; done)), keep_cell hb2 (by first | (simp [go_sem]; done) | (simp [go_sem, KF1]; done) | (simp [go_sem, KF1, World.cell?_alloc_some]; done) | (simp [go_sem, KF1, frozen?_alloc_cells]; done)), keep_frozen2 hb2 (by first | (simp [go_sem]; done) | (simp [go_sem, KF1]; done) | (simp [go_sem, KF1, World.cell?_alloc_some]; done) | (simp [go_sem, KF1, frozen?_alloc_cells]; done)) (by first | (simp [go_sem]; done) | (simp [go_sem, KF1]; done) | (simp [go_sem, KF1, World.cell?_alloc_some]; done) | (simp [go_sem, KF1, frozen?_alloc_cells]; done)), keep_some hb2 (by first | (simp [go_sem]; done) | (simp [go_sem, KF1]; done) | (simp [go_sem, KF1, World.cell?_alloc_some]; done) | (simp [go_sem, KF1, frozen?_alloc_cells]; done)), keep_some hb2 (by first | (simp [go_sem]; done) | (simp [go_sem, KF1]; done) | (simp [go_sem, KF1, World.cell?_alloc_some]; done) | (simp [go_sem, KF1, frozen?_alloc_cells]; done)), keep_some hb2 (by first | (simp [go_sem]; done) | (simp [go_sem, KF1]; done) | (simp [go_sem, KF1, World.cell?_alloc_some]; done) | (simp [go_sem, KF1, frozen?_alloc_cells]; done)), keep_frozen2 hb2 (by first | (simp [go_sem]; done) | (simp [go_sem, KF1]; done) | (simp [go_sem, KF1, World.cell?_alloc_some]; done) | (simp [go_sem, KF1, frozen?_alloc_cells]; done)) (by first | (simp [go_sem]; done) | (simp [go_sem, KF1]; done) | (simp [go_sem, KF1, World.cell?_alloc_some]; done) | (simp [go_sem, KF1, frozen?_alloc_cells]; done))⟩; have KF2z0 : w.heap.size < w2.heap.size := World.block_lt_of_cell? _ _ KF2.1; have KF2z1 : w.heap.size + 1 < w2.heap.size := World.block_lt_of_cell? _ _ KF2.2.2.2.2.1; have KF2z2 : w.heap.size + 1 + 1 < w2.heap.size := World.block_lt_of_cell? _ _ KF2.2.2.2.2.2.2.2.2.1
    clear hb2 KF1
    go_wp2_with fail
    refine (HC.out _).mono ?_
    rintro e w3 ⟨rfl, hb3⟩
    have hb3' := below_step (w := w) (by go_grown) hb3
    have hs3 := hb3'.size
    have KF3 : w3.cell? ⟨w.heap.size, 0, none⟩ = some (.int .i64 W) ∧ w3.cell? ⟨w.heap.size, 1, none⟩ = some (.int .u64 (LO (n))) ∧ w3.cell? ⟨w.heap.size, 2, none⟩ = some (.int .u64 (HI (n))) ∧ (∀ o, w3.frozen? ⟨w.heap.size, o, none⟩ = false) ∧ w3.cell? ⟨w.heap.size + 1, 0, none⟩ = some (.int .i64 W) ∧ w3.cell? ⟨w.heap.size + 1, 1, none⟩ = some (.int .u64 (LO (m))) ∧ w3.cell? ⟨w.heap.size + 1, 2, none⟩ = some (.int .u64 (HI (m))) ∧ (∀ o, w3.frozen? ⟨w.heap.size + 1, o, none⟩ = false) ∧ w3.cell? ⟨w.heap.size + 1 + 1, 0, none⟩ = some (cv w3 ⟨w.heap.size + 1 + 1, 0, none⟩) ∧ w3.cell? ⟨w.heap.size + 1 + 1, 1, none⟩ = some (cv w3 ⟨w.heap.size + 1 + 1, 1, none⟩) ∧ w3.cell? ⟨w.heap.size + 1 + 1, 2, none⟩ = some (cv w3 ⟨w.heap.size + 1 + 1, 2, none⟩) ∧ (∀ o, w3.frozen? ⟨w.heap.size + 1 + 1, o, none⟩ = false) := ⟨keep_cell hb3 (by first | (simp [go_sem]; done) | (simp [go_sem, KF2]; done) | (simp [go_sem, KF2, World.cell?_alloc_some]; done) | (simp [go_sem, KF2, frozen?_alloc_cells]; done)), keep_cell hb3 (by first | (simp [go_sem]; done) | (simp [go_sem, KF2]; done) | (simp [go_sem, KF2, World.cell?_alloc_some]; done) | (simp [go_sem, KF2, frozen?_alloc_cells]; done)), keep_cell hb3 (by first | (simp [go_sem]; done) | (simp [go_sem, KF2]; done) | (simp [go_sem, KF2, World.cell?_alloc_some]; done) | (simp [go_sem, KF2, frozen?_alloc_cells]; done)), keep_frozen2 hb3 (by first | (simp [go_sem]; done) | (simp [go_sem, KF2]; done) | (simp [go_sem, KF2, World.cell?_alloc_some]; done) | (simp [go_sem, KF2, frozen?_alloc_cells]; done)) (by first | (simp [go_sem]; done) | (simp [go_sem, KF2]; done) | (simp [go_sem, KF2, World.cell?_alloc_some]; done) | (simp [go_sem, KF2, frozen?_alloc_cells]; done)), keep_cell hb3 (by first | (simp [go_sem]; done) | (simp [go_sem, KF2]; done) | (simp [go_sem, KF2, World.cell?_alloc_some]; done) | (simp [go_sem, KF2, frozen?_alloc_cells]; done)), keep_cell hb3 (by first | (simp [go_sem]; done) | (simp [go_sem, KF2]; done) | (simp [go_sem, KF2, World.cell?_alloc_some]; done) | (simp [go_sem, KF2, frozen?_alloc_cells]; done)), keep_cell hb3 (by first | (simp [go_sem]; done) | (simp [go_sem, KF2]; done) | (simp [go_sem, KF2, World.cell?_alloc_some]; done) | (simp [go_sem, KF2, frozen?_alloc_cells]; done)), keep_frozen2 hb3 (by first | (simp [go_sem]; done) | (simp [go_sem, KF2]; done) | (simp [go_sem, KF2, World.cell?_alloc_some]; done) | (simp [go_sem, KF2, frozen?_alloc_cells]; done)) (by first | (simp [go_sem]; done) | (simp [go_sem, KF2]; done) | (simp [go_sem, KF2, World.cell?_alloc_some]; done) | (simp [go_sem, KF2, frozen?_alloc_cells]; done)), keep_some hb3 (by first | (simp [go_sem]; done) | (simp [go_sem, KF2]; done) | (simp [go_sem, KF2, World.cell?_alloc_some]; done) | (simp [go_sem, KF2, frozen?_alloc_cells]; done)), keep_some hb3 (by first | (simp [go_sem]; done) | (simp [go_sem, KF2]; done) | (simp [go_sem, KF2, World.cell?_alloc_some]; done) | (simp [go_sem, KF2, frozen?_alloc_cells]; done)), keep_some hb3 (by first | (simp [go_sem]; done) | (simp [go_sem, KF2]; done) | (simp [go_sem, KF2, World.cell?_alloc_some]; done) | (simp [go_sem, KF2, frozen?_alloc_cells]; done)), keep_frozen2 hb3 (by first | (simp [go_sem]; done) | (simp [go_sem, KF2]; done) | (simp [go_sem, KF2, World.cell?_alloc_some]; done) | (simp [go_sem, KF2, frozen?_alloc_cells]; done)) (by first | (simp [go_sem]; done) | (simp [go_sem, KF2]; done) | (simp [go_sem, KF2, World.cell?_alloc_some]; done) | (simp [go_sem, KF2, frozen?_alloc_cells]; done))⟩; have KF3z0 : w.heap.size < w3.heap.size := World.block_lt_of_cell? _ _ KF3.1; have KF3z1 : w.heap.size + 1 < w3.heap.size := World.block_lt_of_cell? _ _ KF3.2.2.2.2.1; have KF3z2 : w.heap.size + 1 + 1 < w3.heap.size := World.block_lt_of_cell? _ _ KF3.2.2.2.2.2.2.2.2.1
    clear hb3 KF2
    go_wp2_with fail
    refine bodyPost_ret (v := .tuple #[.agg #[.int .i64 W, .int .u64 (LO (N)), .int .u64 (HI (N))], .int .i64 0]) (by simp [results, Try.results42, go_sem, *]) rfl ?_
    exact ⟨rfl, by go_grown⟩

set_option maxHeartbeats 1000000 in
theorem two_shift {W n m N : Nat} {op : Int} (hop : op = 26 ∨ op = 27 ∨ op = 28) (h1 : 1 ≤ W) (h2 : W ≤ 128) (hn : n < 2 ^ W) (hn' : m < 2 ^ W) (HC : Hid (∀ wx, Calls Try.prog 69 #[.int .i64 op, .agg #[.int .i64 W, .int .u64 (LO (n)), .int .u64 (HI (n))], .agg #[.int .i64 W, .int .u64 (LO (m)), .int .u64 (HI (m))]] wx fun e w' => e = .returned (.agg #[.int .i64 W, .int .u64 (LO (N)), .int .u64 (HI (N))]) ∧ Below wx.heap.size wx w')) (w : World) :
    Calls Try.prog 42 #[.int .i64 op, .agg #[.int .i64 W, .int .u64 (LO (n)), .int .u64 (HI (n))], .agg #[.int .i64 W, .int .u64 (LO (m)), .int .u64 (HI (m))]] w fun e w' => e = .returned (.tuple #[.agg #[.int .i64 W, .int .u64 (LO (N)), .int .u64 (HI (N))], .int .i64 0]) ∧ Below w.heap.size w w' := by
  rcases hop with rfl | rfl | rfl
  all_goals
    go_enter Try.func42, Try.ntmps42
    go_wp2_with fail
    refine (isWord_any (Wd.mk' h1 h2 hn) _).mono ?_
    rintro e w1 ⟨rfl, hb1⟩
    have hb1' := below_step (w := w) (by go_grown) hb1
    have hs1 := hb1'.size
    have KF1 : w1.cell? ⟨w.heap.size, 0, none⟩ = some (.int .i64 W) ∧ w1.cell? ⟨w.heap.size, 1, none⟩ = some (.int .u64 (LO (n))) ∧ w1.cell? ⟨w.heap.size, 2, none⟩ = some (.int .u64 (HI (n))) ∧ (∀ o, w1.frozen? ⟨w.heap.size, o, none⟩ = false) ∧ w1.cell? ⟨w.heap.size + 1, 0, none⟩ = some (.int .i64 W) ∧ w1.cell? ⟨w.heap.size + 1, 1, none⟩ = some (.int .u64 (LO (m))) ∧ w1.cell? ⟨w.heap.size + 1, 2, none⟩ = some (.int .u64 (HI (m))) ∧ (∀ o, w1.frozen? ⟨w.heap.size + 1, o, none⟩ = false) ∧ w1.cell? ⟨w.heap.size + 1 + 1, 0, none⟩ = some (cv w1 ⟨w.heap.size + 1 + 1, 0, none⟩) ∧ w1.cell? ⟨w.heap.size + 1 + 1, 1, none⟩ = some (cv w1 ⟨w.heap.size + 1 + 1, 1, none⟩) ∧ w1.cell? ⟨w.heap.size + 1 + 1, 2, none⟩ = some (cv w1 ⟨w.heap.size + 1 + 1, 2, none⟩) ∧ (∀ o, w1.frozen? ⟨w.heap.size + 1 + 1, o, none⟩ = false) := ⟨keep_cell hb1 (by first | (simp [go_sem]; done)), keep_cell hb1 (by first | (simp [go_sem]; done)), keep_cell hb1 (by first | (simp [go_sem]; done)), keep_frozen2 hb1 (by first | (simp [go_sem]; done)) (by first | (simp [go_sem]; done)), keep_cell hb1 (by first | (simp [go_sem]; done)), keep_cell hb1 (by first | (simp [go_sem]; done)), keep_cell hb1 (by first | (simp [go_sem]; done)), keep_frozen2 hb1 (by first | (simp [go_sem]; done)) (by first | (simp [go_sem]; done)), keep_some hb1 (by first | (simp [go_sem]; done)), keep_some hb1 (by first | (simp [go_sem]; done)), keep_some hb1 (by first | (simp [go_sem]; done)), keep_frozen2 hb1 (by first | (simp [go_sem]; done)) (by first | (simp [go_sem]; done))⟩; have KF1z0 : w.heap.size < w1.heap.size := World.block_lt_of_cell? _ _ KF1.1; have KF1z1 : w.heap.size + 1 < w1.heap.size := World.block_lt_of_cell? _ _ KF1.2.2.2.2.1; have KF1z2 : w.heap.size + 1 + 1 < w1.heap.size := World.block_lt_of_cell? _ _ KF1.2.2.2.2.2.2.2.2.1
    clear hb1
    go_wp2_with fail
    refine (isWord_any (Wd.mk' h1 h2 hn') _).mono ?_
    rintro e w2 ⟨rfl, hb2⟩
    have hb2' := below_step (w := w) (by go_grown) hb2
    have hs2 := hb2'.size
    have KF2 : w2.cell? ⟨w.heap.size, 0, none⟩ = some (.int .i64 W) ∧ w2.cell? ⟨w.heap.size, 1, none⟩ = some (.int .u64 (LO (n))) ∧ w2.cell? ⟨w.heap.size, 2, none⟩ = some (.int .u64 (HI (n))) ∧ (∀ o, w2.frozen? ⟨w.heap.size, o, none⟩ = false) ∧ w2.cell? ⟨w.heap.size + 1, 0, none⟩ = some (.int .i64 W) ∧ w2.cell? ⟨w.heap.size + 1, 1, none⟩ = some (.int .u64 (LO (m))) ∧ w2.cell? ⟨w.heap.size + 1, 2, none⟩ = some (.int .u64 (HI (m))) ∧ (∀ o, w2.frozen? ⟨w.heap.size + 1, o, none⟩ = false) ∧ w2.cell? ⟨w.heap.size + 1 + 1, 0, none⟩ = some (cv w2 ⟨w.heap.size + 1 + 1, 0, none⟩) ∧ w2.cell? ⟨w.heap.size + 1 + 1, 1, none⟩ = some (cv w2 ⟨w.heap.size + 1 + 1, 1, none⟩) ∧ w2.cell? ⟨w.heap.size + 1 + 1, 2, none⟩ = some (cv w2 ⟨w.heap.size + 1 + 1, 2, none⟩) ∧ (∀ o, w2.frozen? ⟨w.heap.size + 1 + 1, o, none⟩ = false) := ⟨keep_cell hb2 (by first | (simp [go_sem]; done) | (simp [go_sem, KF1]; done) | (simp [go_sem, KF1, World.cell?_alloc_some]; done) | (simp [go_sem, KF1, frozen?_alloc_cells]; done)), keep_cell hb2 (by first | (simp [go_sem]; done) | (simp [go_sem, KF1]; done) | (simp [go_sem, KF1, World.cell?_alloc_some]; done) | (simp [go_sem, KF1, frozen?_alloc_cells]; done)), keep_cell hb2 (by first | (simp [go_sem]; done) | (simp [go_sem, KF1]; done) | (simp [go_sem, KF1, World.cell?_alloc_some]; done) | (simp [go_sem, KF1, frozen?_alloc_cells]; done)), keep_frozen2 hb2 (by first | (simp [go_sem]; done) | (simp [go_sem, KF1]; done) | (simp [go_sem, KF1, World.cell?_alloc_some]; done) | (simp [go_sem, KF1, frozen?_alloc_cells]; done)) (by first | (simp [go_sem]; done) | (simp [go_sem, KF1]; done) | (simp [go_sem, KF1, World.cell?_alloc_some]; done) | (simp [go_sem, KF1, frozen?_alloc_cells]; done)), keep_cell hb2 (by first | (simp [go_sem]; done) | (simp [go_sem, KF1]; done) | (simp [go_sem, KF1, World.cell?_alloc_some]; done) | (simp [go_sem, KF1, frozen?_alloc_cells]; done)), keep_cell hb2 (by first | (simp [go_sem]; done) | (simp [go_sem, KF1]; done) | (simp [go_sem, KF1, World.cell?_alloc_some]; done) | (simp [go_sem, KF1, frozen?_alloc_cells]; done)), keep_cell hb2 (by first | (simp [go_sem]; done) | (simp [go_sem, KF1]; done) | (simp [go_sem, KF1, World.cell?_alloc_some]; done) | (simp [go_sem, KF1, frozen?_alloc_cells]; done)), keep_frozen2 hb2 (by first | (simp [go_sem]; done) | (simp [go_sem, KF1]; done) | (simp [go_sem, KF1, World.cell?_alloc_some]; done) | (simp [go_sem, KF1, frozen?_alloc_cells]; done)) (by first | (simp [go_sem]; done) | (simp [go_sem, KF1]; done) | (simp [go_sem, KF1, World.cell?_alloc_some]; done) | (simp [go_sem, KF1, frozen?_alloc_cells]; done)), keep_some hb2 (by first | (simp [go_sem]; done) | (simp [go_sem, KF1]; done) | (simp [go_sem, KF1, World.cell?_alloc_some]; done) | (simp [go_sem, KF1, frozen?_alloc_cells]; done)), keep_some hb2 (by first | (simp [go_sem]; done) | (simp [go_sem, KF1]; done) | (simp [go_sem, KF1, World.cell?_alloc_some]; done) | (simp [go_sem, KF1, frozen?_alloc_cells]; done)), keep_some hb2 (by first | (simp [go_sem]; done) | (simp [go_sem, KF1]; done) | (simp [go_sem, KF1, World.cell?_alloc_some]; done) | (simp [go_sem, KF1, frozen?_alloc_cells]; done)), keep_frozen2 hb2 (by first | (simp [go_sem]; done) | (simp [go_sem, KF1]; done) | (simp [go_sem, KF1, World.cell?_alloc_some]; done) | (simp [go_sem, KF1, frozen?_alloc_cells]; done)) (by first | (simp [go_sem]; done) | (simp [go_sem, KF1]; done) | (simp [go_sem, KF1, World.cell?_alloc_some]; done) | (simp [go_sem, KF1, frozen?_alloc_cells]; done))⟩; have KF2z0 : w.heap.size < w2.heap.size := World.block_lt_of_cell? _ _ KF2.1; have KF2z1 : w.heap.size + 1 < w2.heap.size := World.block_lt_of_cell? _ _ KF2.2.2.2.2.1; have KF2z2 : w.heap.size + 1 + 1 < w2.heap.size := World.block_lt_of_cell? _ _ KF2.2.2.2.2.2.2.2.2.1
    clear hb2 KF1
    go_wp2_with fail
    refine (HC.out _).mono ?_
    rintro e w3 ⟨rfl, hb3⟩
    have hb3' := below_step (w := w) (by go_grown) hb3
    have hs3 := hb3'.size
    have KF3 : w3.cell? ⟨w.heap.size, 0, none⟩ = some (.int .i64 W) ∧ w3.cell? ⟨w.heap.size, 1, none⟩ = some (.int .u64 (LO (n))) ∧ w3.cell? ⟨w.heap.size, 2, none⟩ = some (.int .u64 (HI (n))) ∧ (∀ o, w3.frozen? ⟨w.heap.size, o, none⟩ = false) ∧ w3.cell? ⟨w.heap.size + 1, 0, none⟩ = some (.int .i64 W) ∧ w3.cell? ⟨w.heap.size + 1, 1, none⟩ = some (.int .u64 (LO (m))) ∧ w3.cell? ⟨w.heap.size + 1, 2, none⟩ = some (.int .u64 (HI (m))) ∧ (∀ o, w3.frozen? ⟨w.heap.size + 1, o, none⟩ = false) ∧ w3.cell? ⟨w.heap.size + 1 + 1, 0, none⟩ = some (cv w3 ⟨w.heap.size + 1 + 1, 0, none⟩) ∧ w3.cell? ⟨w.heap.size + 1 + 1, 1, none⟩ = some (cv w3 ⟨w.heap.size + 1 + 1, 1, none⟩) ∧ w3.cell? ⟨w.heap.size + 1 + 1, 2, none⟩ = some (cv w3 ⟨w.heap.size + 1 + 1, 2, none⟩) ∧ (∀ o, w3.frozen? ⟨w.heap.size + 1 + 1, o, none⟩ = false) := ⟨keep_cell hb3 (by first | (simp [go_sem]; done) | (simp [go_sem, KF2]; done) | (simp [go_sem, KF2, World.cell?_alloc_some]; done) | (simp [go_sem, KF2, frozen?_alloc_cells]; done)), keep_cell hb3 (by first | (simp [go_sem]; done) | (simp [go_sem, KF2]; done) | (simp [go_sem, KF2, World.cell?_alloc_some]; done) | (simp [go_sem, KF2, frozen?_alloc_cells]; done)), keep_cell hb3 (by first | (simp [go_sem]; done) | (simp [go_sem, KF2]; done) | (simp [go_sem, KF2, World.cell?_alloc_some]; done) | (simp [go_sem, KF2, frozen?_alloc_cells]; done)), keep_frozen2 hb3 (by first | (simp [go_sem]; done) | (simp [go_sem, KF2]; done) | (simp [go_sem, KF2, World.cell?_alloc_some]; done) | (simp [go_sem, KF2, frozen?_alloc_cells]; done)) (by first | (simp [go_sem]; done) | (simp [go_sem, KF2]; done) | (simp [go_sem, KF2, World.cell?_alloc_some]; done) | (simp [go_sem, KF2, frozen?_alloc_cells]; done)), keep_cell hb3 (by first | (simp [go_sem]; done) | (simp [go_sem, KF2]; done) | (simp [go_sem, KF2, World.cell?_alloc_some]; done) | (simp [go_sem, KF2, frozen?_alloc_cells]; done)), keep_cell hb3 (by first | (simp [go_sem]; done) | (simp [go_sem, KF2]; done) | (simp [go_sem, KF2, World.cell?_alloc_some]; done) | (simp [go_sem, KF2, frozen?_alloc_cells]; done)), keep_cell hb3 (by first | (simp [go_sem]; done) | (simp [go_sem, KF2]; done) | (simp [go_sem, KF2, World.cell?_alloc_some]; done) | (simp [go_sem, KF2, frozen?_alloc_cells]; done)), keep_frozen2 hb3 (by first | (simp [go_sem]; done) | (simp [go_sem, KF2]; done) | (simp [go_sem, KF2, World.cell?_alloc_some]; done) | (simp [go_sem, KF2, frozen?_alloc_cells]; done)) (by first | (simp [go_sem]; done) | (simp [go_sem, KF2]; done) | (simp [go_sem, KF2, World.cell?_alloc_some]; done) | (simp [go_sem, KF2, frozen?_alloc_cells]; done)), keep_some hb3 (by first | (simp [go_sem]; done) | (simp [go_sem, KF2]; done) | (simp [go_sem, KF2, World.cell?_alloc_some]; done) | (simp [go_sem, KF2, frozen?_alloc_cells]; done)), keep_some hb3 (by first | (simp [go_sem]; done) | (simp [go_sem, KF2]; done) | (simp [go_sem, KF2, World.cell?_alloc_some]; done) | (simp [go_sem, KF2, frozen?_alloc_cells]; done)), keep_some hb3 (by first | (simp [go_sem]; done) | (simp [go_sem, KF2]; done) | (simp [go_sem, KF2, World.cell?_alloc_some]; done) | (simp [go_sem, KF2, frozen?_alloc_cells]; done)), keep_frozen2 hb3 (by first | (simp [go_sem]; done) | (simp [go_sem, KF2]; done) | (simp [go_sem, KF2, World.cell?_alloc_some]; done) | (simp [go_sem, KF2, frozen?_alloc_cells]; done)) (by first | (simp [go_sem]; done) | (simp [go_sem, KF2]; done) | (simp [go_sem, KF2, World.cell?_alloc_some]; done) | (simp [go_sem, KF2, frozen?_alloc_cells]; done))⟩; have KF3z0 : w.heap.size < w3.heap.size := World.block_lt_of_cell? _ _ KF3.1; have KF3z1 : w.heap.size + 1 < w3.heap.size := World.block_lt_of_cell? _ _ KF3.2.2.2.2.1; have KF3z2 : w.heap.size + 1 + 1 < w3.heap.size := World.block_lt_of_cell? _ _ KF3.2.2.2.2.2.2.2.2.1
    clear hb3 KF2
    go_wp2_with fail
    refine bodyPost_ret (v := .tuple #[.agg #[.int .i64 W, .int .u64 (LO (N)), .int .u64 (HI (N))], .int .i64 0]) (by simp [results, Try.results42, go_sem, *]) rfl ?_
    exact ⟨rfl, by go_grown⟩

set_option maxHeartbeats 400000 in
theorem do_of {op WW lo hi WW' lo' hi' K l h : Int} (H : ∀ wx, Calls Try.prog 42 #[.int .i64 op, .agg #[.int .i64 WW, .int .u64 lo, .int .u64 hi], .agg #[.int .i64 WW', .int .u64 lo', .int .u64 hi']] wx fun e w' => e = .returned (.tuple #[.agg #[.int .i64 K, .int .u64 l, .int .u64 h], .int .i64 0]) ∧ Below wx.heap.size wx w') (w : World) :
    Calls Try.prog 34 #[.int .i64 op, .agg #[.int .i64 WW, .int .u64 lo, .int .u64 hi], .agg #[.int .i64 WW', .int .u64 lo', .int .u64 hi']] w fun e w' => e = .returned (.agg #[.int .i64 K, .int .u64 l, .int .u64 h]) ∧ Below w.heap.size w w' := by
  have HC : Hid _ := H
  clear H
  go_enter Try.func34, Try.ntmps34
  go_wp2_with fail
  refine (HC.out _).mono ?_
  rintro e w1 ⟨rfl, hb1⟩
  have hb1' := below_step (w := w) (by go_grown) hb1
  have hs1 := hb1'.size
  have KF1 : w1.cell? ⟨w.heap.size, 0, none⟩ = some (.int .i64 WW) ∧ w1.cell? ⟨w.heap.size, 1, none⟩ = some (.int .u64 lo) ∧ w1.cell? ⟨w.heap.size, 2, none⟩ = some (.int .u64 hi) ∧ (∀ o, w1.frozen? ⟨w.heap.size, o, none⟩ = false) ∧ w1.cell? ⟨w.heap.size + 1, 0, none⟩ = some (.int .i64 WW') ∧ w1.cell? ⟨w.heap.size + 1, 1, none⟩ = some (.int .u64 lo') ∧ w1.cell? ⟨w.heap.size + 1, 2, none⟩ = some (.int .u64 hi') ∧ (∀ o, w1.frozen? ⟨w.heap.size + 1, o, none⟩ = false) ∧ w1.cell? ⟨w.heap.size + 1 + 1, 0, none⟩ = some (cv w1 ⟨w.heap.size + 1 + 1, 0, none⟩) ∧ w1.cell? ⟨w.heap.size + 1 + 1, 1, none⟩ = some (cv w1 ⟨w.heap.size + 1 + 1, 1, none⟩) ∧ w1.cell? ⟨w.heap.size + 1 + 1, 2, none⟩ = some (cv w1 ⟨w.heap.size + 1 + 1, 2, none⟩) ∧ (∀ o, w1.frozen? ⟨w.heap.size + 1 + 1, o, none⟩ = false) := ⟨keep_cell hb1 (by first | (simp [go_sem]; done)), keep_cell hb1 (by first | (simp [go_sem]; done)), keep_cell hb1 (by first | (simp [go_sem]; done)), keep_frozen2 hb1 (by first | (simp [go_sem]; done)) (by first | (simp [go_sem]; done)), keep_cell hb1 (by first | (simp [go_sem]; done)), keep_cell hb1 (by first | (simp [go_sem]; done)), keep_cell hb1 (by first | (simp [go_sem]; done)), keep_frozen2 hb1 (by first | (simp [go_sem]; done)) (by first | (simp [go_sem]; done)), keep_some hb1 (by first | (simp [go_sem]; done)), keep_some hb1 (by first | (simp [go_sem]; done)), keep_some hb1 (by first | (simp [go_sem]; done)), keep_frozen2 hb1 (by first | (simp [go_sem]; done)) (by first | (simp [go_sem]; done))⟩; have KF1z0 : w.heap.size < w1.heap.size := World.block_lt_of_cell? _ _ KF1.1; have KF1z1 : w.heap.size + 1 < w1.heap.size := World.block_lt_of_cell? _ _ KF1.2.2.2.2.1; have KF1z2 : w.heap.size + 1 + 1 < w1.heap.size := World.block_lt_of_cell? _ _ KF1.2.2.2.2.2.2.2.2.1
  clear hb1
  go_wp2_with fail
  refine bodyPost_ret (v := .agg #[.int .i64 K, .int .u64 l, .int .u64 h]) (by simp [results, Try.results34, go_sem, *]) rfl ?_
  exact ⟨rfl, by go_grown⟩

theorem two_and {W n m : Nat} {WW lo hi WW' lo' hi' : Int} (hw : Wd WW lo hi W n) (hw' : Wd WW' lo' hi' W m) (w : World) :
    Calls Try.prog 42 #[.int .i64 12, .agg #[.int .i64 WW, .int .u64 lo, .int .u64 hi], .agg #[.int .i64 WW', .int .u64 lo', .int .u64 hi']] w fun e w' => e = .returned (.tuple #[.agg #[.int .i64 W, .int .u64 (LO (n &&& m)), .int .u64 (HI (n &&& m))], .int .i64 0]) ∧ Below w.heap.size w w' := by
  obtain ⟨h1, h2, hn, rfl, rfl, rfl⟩ := hw
  obtain ⟨-, -, hn', rfl, rfl, rfl⟩ := hw'
  exact two_bitwise (Or.inl rfl) h1 h2 hn hn' (fun wx => bitwise_and (Wd.mk' h1 h2 hn) (Wd.mk' h1 h2 hn') wx) w

theorem do_and {W n m : Nat} {WW lo hi WW' lo' hi' : Int} (hw : Wd WW lo hi W n) (hw' : Wd WW' lo' hi' W m) (w : World) :
    Calls Try.prog 34 #[.int .i64 12, .agg #[.int .i64 WW, .int .u64 lo, .int .u64 hi], .agg #[.int .i64 WW', .int .u64 lo', .int .u64 hi']] w fun e w' => e = .returned (.agg #[.int .i64 W, .int .u64 (LO (n &&& m)), .int .u64 (HI (n &&& m))]) ∧ Below w.heap.size w w' :=
  do_of (fun wx => two_and hw hw' wx) w

theorem two_or {W n m : Nat} {WW lo hi WW' lo' hi' : Int} (hw : Wd WW lo hi W n) (hw' : Wd WW' lo' hi' W m) (w : World) :
    Calls Try.prog 42 #[.int .i64 13, .agg #[.int .i64 WW, .int .u64 lo, .int .u64 hi], .agg #[.int .i64 WW', .int .u64 lo', .int .u64 hi']] w fun e w' => e = .returned (.tuple #[.agg #[.int .i64 W, .int .u64 (LO (n ||| m)), .int .u64 (HI (n ||| m))], .int .i64 0]) ∧ Below w.heap.size w w' := by
  obtain ⟨h1, h2, hn, rfl, rfl, rfl⟩ := hw
  obtain ⟨-, -, hn', rfl, rfl, rfl⟩ := hw'
  exact two_bitwise (Or.inr (Or.inl rfl)) h1 h2 hn hn' (fun wx => bitwise_or (Wd.mk' h1 h2 hn) (Wd.mk' h1 h2 hn') wx) w

theorem do_or {W n m : Nat} {WW lo hi WW' lo' hi' : Int} (hw : Wd WW lo hi W n) (hw' : Wd WW' lo' hi' W m) (w : World) :
    Calls Try.prog 34 #[.int .i64 13, .agg #[.int .i64 WW, .int .u64 lo, .int .u64 hi], .agg #[.int .i64 WW', .int .u64 lo', .int .u64 hi']] w fun e w' => e = .returned (.agg #[.int .i64 W, .int .u64 (LO (n ||| m)), .int .u64 (HI (n ||| m))]) ∧ Below w.heap.size w w' :=
  do_of (fun wx => two_or hw hw' wx) w

theorem two_xor {W n m : Nat} {WW lo hi WW' lo' hi' : Int} (hw : Wd WW lo hi W n) (hw' : Wd WW' lo' hi' W m) (w : World) :
    Calls Try.prog 42 #[.int .i64 14, .agg #[.int .i64 WW, .int .u64 lo, .int .u64 hi], .agg #[.int .i64 WW', .int .u64 lo', .int .u64 hi']] w fun e w' => e = .returned (.tuple #[.agg #[.int .i64 W, .int .u64 (LO (n ^^^ m)), .int .u64 (HI (n ^^^ m))], .int .i64 0]) ∧ Below w.heap.size w w' := by
  obtain ⟨h1, h2, hn, rfl, rfl, rfl⟩ := hw
  obtain ⟨-, -, hn', rfl, rfl, rfl⟩ := hw'
  exact two_bitwise (Or.inr (Or.inr (Or.inl rfl))) h1 h2 hn hn' (fun wx => bitwise_xor (Wd.mk' h1 h2 hn) (Wd.mk' h1 h2 hn') wx) w

theorem do_xor {W n m : Nat} {WW lo hi WW' lo' hi' : Int} (hw : Wd WW lo hi W n) (hw' : Wd WW' lo' hi' W m) (w : World) :
    Calls Try.prog 34 #[.int .i64 14, .agg #[.int .i64 WW, .int .u64 lo, .int .u64 hi], .agg #[.int .i64 WW', .int .u64 lo', .int .u64 hi']] w fun e w' => e = .returned (.agg #[.int .i64 W, .int .u64 (LO (n ^^^ m)), .int .u64 (HI (n ^^^ m))]) ∧ Below w.heap.size w w' :=
  do_of (fun wx => two_xor hw hw' wx) w

theorem two_nand {W n m : Nat} {WW lo hi WW' lo' hi' : Int} (hw : Wd WW lo hi W n) (hw' : Wd WW' lo' hi' W m) (w : World) :
    Calls Try.prog 42 #[.int .i64 15, .agg #[.int .i64 WW, .int .u64 lo, .int .u64 hi], .agg #[.int .i64 WW', .int .u64 lo', .int .u64 hi']] w fun e w' => e = .returned (.tuple #[.agg #[.int .i64 W, .int .u64 (LO (2 ^ W - 1 - (n &&& m))), .int .u64 (HI (2 ^ W - 1 - (n &&& m)))], .int .i64 0]) ∧ Below w.heap.size w w' := by
  obtain ⟨h1, h2, hn, rfl, rfl, rfl⟩ := hw
  obtain ⟨-, -, hn', rfl, rfl, rfl⟩ := hw'
  exact two_bitwise (Or.inr (Or.inr (Or.inr (Or.inl rfl)))) h1 h2 hn hn' (fun wx => bitwise_nand (Wd.mk' h1 h2 hn) (Wd.mk' h1 h2 hn') wx) w

theorem do_nand {W n m : Nat} {WW lo hi WW' lo' hi' : Int} (hw : Wd WW lo hi W n) (hw' : Wd WW' lo' hi' W m) (w : World) :
    Calls Try.prog 34 #[.int .i64 15, .agg #[.int .i64 WW, .int .u64 lo, .int .u64 hi], .agg #[.int .i64 WW', .int .u64 lo', .int .u64 hi']] w fun e w' => e = .returned (.agg #[.int .i64 W, .int .u64 (LO (2 ^ W - 1 - (n &&& m))), .int .u64 (HI (2 ^ W - 1 - (n &&& m)))]) ∧ Below w.heap.size w w' :=
  do_of (fun wx => two_nand hw hw' wx) w

theorem two_nor {W n m : Nat} {WW lo hi WW' lo' hi' : Int} (hw : Wd WW lo hi W n) (hw' : Wd WW' lo' hi' W m) (w : World) :
    Calls Try.prog 42 #[.int .i64 16, .agg #[.int .i64 WW, .int .u64 lo, .int .u64 hi], .agg #[.int .i64 WW', .int .u64 lo', .int .u64 hi']] w fun e w' => e = .returned (.tuple #[.agg #[.int .i64 W, .int .u64 (LO (2 ^ W - 1 - (n ||| m))), .int .u64 (HI (2 ^ W - 1 - (n ||| m)))], .int .i64 0]) ∧ Below w.heap.size w w' := by
  obtain ⟨h1, h2, hn, rfl, rfl, rfl⟩ := hw
  obtain ⟨-, -, hn', rfl, rfl, rfl⟩ := hw'
  exact two_bitwise (Or.inr (Or.inr (Or.inr (Or.inr (Or.inl rfl))))) h1 h2 hn hn' (fun wx => bitwise_nor (Wd.mk' h1 h2 hn) (Wd.mk' h1 h2 hn') wx) w

theorem do_nor {W n m : Nat} {WW lo hi WW' lo' hi' : Int} (hw : Wd WW lo hi W n) (hw' : Wd WW' lo' hi' W m) (w : World) :
    Calls Try.prog 34 #[.int .i64 16, .agg #[.int .i64 WW, .int .u64 lo, .int .u64 hi], .agg #[.int .i64 WW', .int .u64 lo', .int .u64 hi']] w fun e w' => e = .returned (.agg #[.int .i64 W, .int .u64 (LO (2 ^ W - 1 - (n ||| m))), .int .u64 (HI (2 ^ W - 1 - (n ||| m)))]) ∧ Below w.heap.size w w' :=
  do_of (fun wx => two_nor hw hw' wx) w

theorem two_xnor {W n m : Nat} {WW lo hi WW' lo' hi' : Int} (hw : Wd WW lo hi W n) (hw' : Wd WW' lo' hi' W m) (w : World) :
    Calls Try.prog 42 #[.int .i64 17, .agg #[.int .i64 WW, .int .u64 lo, .int .u64 hi], .agg #[.int .i64 WW', .int .u64 lo', .int .u64 hi']] w fun e w' => e = .returned (.tuple #[.agg #[.int .i64 W, .int .u64 (LO (2 ^ W - 1 - (n ^^^ m))), .int .u64 (HI (2 ^ W - 1 - (n ^^^ m)))], .int .i64 0]) ∧ Below w.heap.size w w' := by
  obtain ⟨h1, h2, hn, rfl, rfl, rfl⟩ := hw
  obtain ⟨-, -, hn', rfl, rfl, rfl⟩ := hw'
  exact two_bitwise (Or.inr (Or.inr (Or.inr (Or.inr (Or.inr rfl))))) h1 h2 hn hn' (fun wx => bitwise_nxor (Wd.mk' h1 h2 hn) (Wd.mk' h1 h2 hn') wx) w

theorem do_xnor {W n m : Nat} {WW lo hi WW' lo' hi' : Int} (hw : Wd WW lo hi W n) (hw' : Wd WW' lo' hi' W m) (w : World) :
    Calls Try.prog 34 #[.int .i64 17, .agg #[.int .i64 WW, .int .u64 lo, .int .u64 hi], .agg #[.int .i64 WW', .int .u64 lo', .int .u64 hi']] w fun e w' => e = .returned (.agg #[.int .i64 W, .int .u64 (LO (2 ^ W - 1 - (n ^^^ m))), .int .u64 (HI (2 ^ W - 1 - (n ^^^ m)))]) ∧ Below w.heap.size w w' :=
  do_of (fun wx => two_xnor hw hw' wx) w

theorem two_add {W n m : Nat} {WW lo hi WW' lo' hi' : Int} (hw : Wd WW lo hi W n) (hw' : Wd WW' lo' hi' W m) (w : World) :
    Calls Try.prog 42 #[.int .i64 18, .agg #[.int .i64 WW, .int .u64 lo, .int .u64 hi], .agg #[.int .i64 WW', .int .u64 lo', .int .u64 hi']] w fun e w' => e = .returned (.tuple #[.agg #[.int .i64 W, .int .u64 (LO ((n + m) % 2 ^ W)), .int .u64 (HI ((n + m) % 2 ^ W))], .int .i64 0]) ∧ Below w.heap.size w w' := by
  obtain ⟨h1, h2, hn, rfl, rfl, rfl⟩ := hw
  obtain ⟨-, -, hn', rfl, rfl, rfl⟩ := hw'
  exact two_arith (Or.inl rfl) h1 h2 hn hn' (fun wx => arith_add (Wd.mk' h1 h2 hn) (Wd.mk' h1 h2 hn') wx) w

theorem do_add {W n m : Nat} {WW lo hi WW' lo' hi' : Int} (hw : Wd WW lo hi W n) (hw' : Wd WW' lo' hi' W m) (w : World) :
    Calls Try.prog 34 #[.int .i64 18, .agg #[.int .i64 WW, .int .u64 lo, .int .u64 hi], .agg #[.int .i64 WW', .int .u64 lo', .int .u64 hi']] w fun e w' => e = .returned (.agg #[.int .i64 W, .int .u64 (LO ((n + m) % 2 ^ W)), .int .u64 (HI ((n + m) % 2 ^ W))]) ∧ Below w.heap.size w w' :=
  do_of (fun wx => two_add hw hw' wx) w

theorem two_sub {W n m : Nat} {WW lo hi WW' lo' hi' : Int} (hw : Wd WW lo hi W n) (hw' : Wd WW' lo' hi' W m) (w : World) :
    Calls Try.prog 42 #[.int .i64 19, .agg #[.int .i64 WW, .int .u64 lo, .int .u64 hi], .agg #[.int .i64 WW', .int .u64 lo', .int .u64 hi']] w fun e w' => e = .returned (.tuple #[.agg #[.int .i64 W, .int .u64 (LO ((n + neg W m) % 2 ^ W)), .int .u64 (HI ((n + neg W m) % 2 ^ W))], .int .i64 0]) ∧ Below w.heap.size w w' := by
  obtain ⟨h1, h2, hn, rfl, rfl, rfl⟩ := hw
  obtain ⟨-, -, hn', rfl, rfl, rfl⟩ := hw'
  exact two_arith (Or.inr (Or.inl rfl)) h1 h2 hn hn' (fun wx => arith_sub (Wd.mk' h1 h2 hn) (Wd.mk' h1 h2 hn') wx) w

theorem do_sub {W n m : Nat} {WW lo hi WW' lo' hi' : Int} (hw : Wd WW lo hi W n) (hw' : Wd WW' lo' hi' W m) (w : World) :
    Calls Try.prog 34 #[.int .i64 19, .agg #[.int .i64 WW, .int .u64 lo, .int .u64 hi], .agg #[.int .i64 WW', .int .u64 lo', .int .u64 hi']] w fun e w' => e = .returned (.agg #[.int .i64 W, .int .u64 (LO ((n + neg W m) % 2 ^ W)), .int .u64 (HI ((n + neg W m) % 2 ^ W))]) ∧ Below w.heap.size w w' :=
  do_of (fun wx => two_sub hw hw' wx) w

theorem two_mul {W n m : Nat} {WW lo hi WW' lo' hi' : Int} (hw : Wd WW lo hi W n) (hw' : Wd WW' lo' hi' W m) (w : World) :
    Calls Try.prog 42 #[.int .i64 20, .agg #[.int .i64 WW, .int .u64 lo, .int .u64 hi], .agg #[.int .i64 WW', .int .u64 lo', .int .u64 hi']] w fun e w' => e = .returned (.tuple #[.agg #[.int .i64 W, .int .u64 (LO (n * m % 2 ^ W)), .int .u64 (HI (n * m % 2 ^ W))], .int .i64 0]) ∧ Below w.heap.size w w' := by
  obtain ⟨h1, h2, hn, rfl, rfl, rfl⟩ := hw
  obtain ⟨-, -, hn', rfl, rfl, rfl⟩ := hw'
  exact two_arith (Or.inr (Or.inr rfl)) h1 h2 hn hn' (fun wx => arith_mul (Wd.mk' h1 h2 hn) (Wd.mk' h1 h2 hn') wx) w

theorem do_mul {W n m : Nat} {WW lo hi WW' lo' hi' : Int} (hw : Wd WW lo hi W n) (hw' : Wd WW' lo' hi' W m) (w : World) :
    Calls Try.prog 34 #[.int .i64 20, .agg #[.int .i64 WW, .int .u64 lo, .int .u64 hi], .agg #[.int .i64 WW', .int .u64 lo', .int .u64 hi']] w fun e w' => e = .returned (.agg #[.int .i64 W, .int .u64 (LO (n * m % 2 ^ W)), .int .u64 (HI (n * m % 2 ^ W))]) ∧ Below w.heap.size w w' :=
  do_of (fun wx => two_mul hw hw' wx) w

theorem two_udiv {W n m : Nat} {WW lo hi WW' lo' hi' : Int} (hw : Wd WW lo hi W n) (hw' : Wd WW' lo' hi' W m) (w : World) :
    Calls Try.prog 42 #[.int .i64 21, .agg #[.int .i64 WW, .int .u64 lo, .int .u64 hi], .agg #[.int .i64 WW', .int .u64 lo', .int .u64 hi']] w fun e w' => e = .returned (.tuple #[.agg #[.int .i64 W, .int .u64 (LO (udiv W n m)), .int .u64 (HI (udiv W n m))], .int .i64 0]) ∧ Below w.heap.size w w' := by
  obtain ⟨h1, h2, hn, rfl, rfl, rfl⟩ := hw
  obtain ⟨-, -, hn', rfl, rfl, rfl⟩ := hw'
  exact two_unsigned (Or.inl rfl) h1 h2 hn hn' (fun wx => unsigned_div (Wd.mk' h1 h2 hn) (Wd.mk' h1 h2 hn') wx) w

theorem do_udiv {W n m : Nat} {WW lo hi WW' lo' hi' : Int} (hw : Wd WW lo hi W n) (hw' : Wd WW' lo' hi' W m) (w : World) :
    Calls Try.prog 34 #[.int .i64 21, .agg #[.int .i64 WW, .int .u64 lo, .int .u64 hi], .agg #[.int .i64 WW', .int .u64 lo', .int .u64 hi']] w fun e w' => e = .returned (.agg #[.int .i64 W, .int .u64 (LO (udiv W n m)), .int .u64 (HI (udiv W n m))]) ∧ Below w.heap.size w w' :=
  do_of (fun wx => two_udiv hw hw' wx) w

theorem two_urem {W n m : Nat} {WW lo hi WW' lo' hi' : Int} (hw : Wd WW lo hi W n) (hw' : Wd WW' lo' hi' W m) (w : World) :
    Calls Try.prog 42 #[.int .i64 22, .agg #[.int .i64 WW, .int .u64 lo, .int .u64 hi], .agg #[.int .i64 WW', .int .u64 lo', .int .u64 hi']] w fun e w' => e = .returned (.tuple #[.agg #[.int .i64 W, .int .u64 (LO (urem n m)), .int .u64 (HI (urem n m))], .int .i64 0]) ∧ Below w.heap.size w w' := by
  obtain ⟨h1, h2, hn, rfl, rfl, rfl⟩ := hw
  obtain ⟨-, -, hn', rfl, rfl, rfl⟩ := hw'
  exact two_unsigned (Or.inr rfl) h1 h2 hn hn' (fun wx => unsigned_rem (Wd.mk' h1 h2 hn) (Wd.mk' h1 h2 hn') wx) w

theorem do_urem {W n m : Nat} {WW lo hi WW' lo' hi' : Int} (hw : Wd WW lo hi W n) (hw' : Wd WW' lo' hi' W m) (w : World) :
    Calls Try.prog 34 #[.int .i64 22, .agg #[.int .i64 WW, .int .u64 lo, .int .u64 hi], .agg #[.int .i64 WW', .int .u64 lo', .int .u64 hi']] w fun e w' => e = .returned (.agg #[.int .i64 W, .int .u64 (LO (urem n m)), .int .u64 (HI (urem n m))]) ∧ Below w.heap.size w w' :=
  do_of (fun wx => two_urem hw hw' wx) w

theorem two_shl {W n m : Nat} {WW lo hi WW' lo' hi' : Int} (hw : Wd WW lo hi W n) (hw' : Wd WW' lo' hi' W m) (w : World) :
    Calls Try.prog 42 #[.int .i64 26, .agg #[.int .i64 WW, .int .u64 lo, .int .u64 hi], .agg #[.int .i64 WW', .int .u64 lo', .int .u64 hi']] w fun e w' => e = .returned (.tuple #[.agg #[.int .i64 W, .int .u64 (LO (n * 2 ^ dist m W % 2 ^ W)), .int .u64 (HI (n * 2 ^ dist m W % 2 ^ W))], .int .i64 0]) ∧ Below w.heap.size w w' := by
  obtain ⟨h1, h2, hn, rfl, rfl, rfl⟩ := hw
  obtain ⟨-, -, hn', rfl, rfl, rfl⟩ := hw'
  exact two_shift (Or.inl rfl) h1 h2 hn hn' (fun wx => shift_shl (Wd.mk' h1 h2 hn) (Wd.mk' h1 h2 hn') wx) w

theorem do_shl {W n m : Nat} {WW lo hi WW' lo' hi' : Int} (hw : Wd WW lo hi W n) (hw' : Wd WW' lo' hi' W m) (w : World) :
    Calls Try.prog 34 #[.int .i64 26, .agg #[.int .i64 WW, .int .u64 lo, .int .u64 hi], .agg #[.int .i64 WW', .int .u64 lo', .int .u64 hi']] w fun e w' => e = .returned (.agg #[.int .i64 W, .int .u64 (LO (n * 2 ^ dist m W % 2 ^ W)), .int .u64 (HI (n * 2 ^ dist m W % 2 ^ W))]) ∧ Below w.heap.size w w' :=
  do_of (fun wx => two_shl hw hw' wx) w

theorem two_lshr {W n m : Nat} {WW lo hi WW' lo' hi' : Int} (hw : Wd WW lo hi W n) (hw' : Wd WW' lo' hi' W m) (w : World) :
    Calls Try.prog 42 #[.int .i64 27, .agg #[.int .i64 WW, .int .u64 lo, .int .u64 hi], .agg #[.int .i64 WW', .int .u64 lo', .int .u64 hi']] w fun e w' => e = .returned (.tuple #[.agg #[.int .i64 W, .int .u64 (LO (n / 2 ^ dist m W)), .int .u64 (HI (n / 2 ^ dist m W))], .int .i64 0]) ∧ Below w.heap.size w w' := by
  obtain ⟨h1, h2, hn, rfl, rfl, rfl⟩ := hw
  obtain ⟨-, -, hn', rfl, rfl, rfl⟩ := hw'
  exact two_shift (Or.inr (Or.inl rfl)) h1 h2 hn hn' (fun wx => shift_lshr (Wd.mk' h1 h2 hn) (Wd.mk' h1 h2 hn') wx) w

theorem do_lshr {W n m : Nat} {WW lo hi WW' lo' hi' : Int} (hw : Wd WW lo hi W n) (hw' : Wd WW' lo' hi' W m) (w : World) :
    Calls Try.prog 34 #[.int .i64 27, .agg #[.int .i64 WW, .int .u64 lo, .int .u64 hi], .agg #[.int .i64 WW', .int .u64 lo', .int .u64 hi']] w fun e w' => e = .returned (.agg #[.int .i64 W, .int .u64 (LO (n / 2 ^ dist m W)), .int .u64 (HI (n / 2 ^ dist m W))]) ∧ Below w.heap.size w w' :=
  do_of (fun wx => two_lshr hw hw' wx) w

theorem two_ashr0 {W n m : Nat} {WW lo hi WW' lo' hi' : Int} (hw : Wd WW lo hi W n) (hw' : Wd WW' lo' hi' W m) (hs : n.testBit (W - 1) = false) (w : World) :
    Calls Try.prog 42 #[.int .i64 28, .agg #[.int .i64 WW, .int .u64 lo, .int .u64 hi], .agg #[.int .i64 WW', .int .u64 lo', .int .u64 hi']] w fun e w' => e = .returned (.tuple #[.agg #[.int .i64 W, .int .u64 (LO (n / 2 ^ dist m W)), .int .u64 (HI (n / 2 ^ dist m W))], .int .i64 0]) ∧ Below w.heap.size w w' := by
  obtain ⟨h1, h2, hn, rfl, rfl, rfl⟩ := hw
  obtain ⟨-, -, hn', rfl, rfl, rfl⟩ := hw'
  exact two_shift (Or.inr (Or.inr rfl)) h1 h2 hn hn' (fun wx => shift_ashr0 (Wd.mk' h1 h2 hn) (Wd.mk' h1 h2 hn') hs wx) w

theorem do_ashr0 {W n m : Nat} {WW lo hi WW' lo' hi' : Int} (hw : Wd WW lo hi W n) (hw' : Wd WW' lo' hi' W m) (hs : n.testBit (W - 1) = false) (w : World) :
    Calls Try.prog 34 #[.int .i64 28, .agg #[.int .i64 WW, .int .u64 lo, .int .u64 hi], .agg #[.int .i64 WW', .int .u64 lo', .int .u64 hi']] w fun e w' => e = .returned (.agg #[.int .i64 W, .int .u64 (LO (n / 2 ^ dist m W)), .int .u64 (HI (n / 2 ^ dist m W))]) ∧ Below w.heap.size w w' :=
  do_of (fun wx => two_ashr0 hw hw' hs wx) w

theorem two_ashr1 {W n m : Nat} {WW lo hi WW' lo' hi' : Int} (hw : Wd WW lo hi W n) (hw' : Wd WW' lo' hi' W m) (hs : n.testBit (W - 1) = true) (w : World) :
    Calls Try.prog 42 #[.int .i64 28, .agg #[.int .i64 WW, .int .u64 lo, .int .u64 hi], .agg #[.int .i64 WW', .int .u64 lo', .int .u64 hi']] w fun e w' => e = .returned (.tuple #[.agg #[.int .i64 W, .int .u64 (LO (2 ^ W - 1 - (2 ^ W - 1 - n) / 2 ^ dist m W)), .int .u64 (HI (2 ^ W - 1 - (2 ^ W - 1 - n) / 2 ^ dist m W))], .int .i64 0]) ∧ Below w.heap.size w w' := by
  obtain ⟨h1, h2, hn, rfl, rfl, rfl⟩ := hw
  obtain ⟨-, -, hn', rfl, rfl, rfl⟩ := hw'
  exact two_shift (Or.inr (Or.inr rfl)) h1 h2 hn hn' (fun wx => shift_ashr1 (Wd.mk' h1 h2 hn) (Wd.mk' h1 h2 hn') hs wx) w

theorem do_ashr1 {W n m : Nat} {WW lo hi WW' lo' hi' : Int} (hw : Wd WW lo hi W n) (hw' : Wd WW' lo' hi' W m) (hs : n.testBit (W - 1) = true) (w : World) :
    Calls Try.prog 34 #[.int .i64 28, .agg #[.int .i64 WW, .int .u64 lo, .int .u64 hi], .agg #[.int .i64 WW', .int .u64 lo', .int .u64 hi']] w fun e w' => e = .returned (.agg #[.int .i64 W, .int .u64 (LO (2 ^ W - 1 - (2 ^ W - 1 - n) / 2 ^ dist m W)), .int .u64 (HI (2 ^ W - 1 - (2 ^ W - 1 - n) / 2 ^ dist m W))]) ∧ Below w.heap.size w w' :=
  do_of (fun wx => two_ashr1 hw hw' hs wx) w

set_option maxHeartbeats 400000 in
theorem lawone_not {W n : Nat} {WW lo hi : Int} (hw : Wd WW lo hi W n) (w : World) :
    Calls Try.prog 35 #[.int .i64 10, .agg #[.int .i64 WW, .int .u64 lo, .int .u64 hi]] w fun e w' => e = .returned (.agg #[.int .i64 W, .int .u64 (LO (2 ^ W - 1 - n)), .int .u64 (HI (2 ^ W - 1 - n))]) ∧ Below w.heap.size w w' := by
  obtain ⟨h1, h2, hn, rfl, rfl, rfl⟩ := hw
  go_enter Try.func35, Try.ntmps35
  go_wp2_with fail
  refine (one_not (Wd.mk' h1 h2 hn) _).mono ?_
  rintro e w1 ⟨rfl, hb1⟩
  have hb1' := below_step (w := w) (by go_grown) hb1
  have hs1 := hb1'.size
  have KF1 : w1.cell? ⟨w.heap.size, 0, none⟩ = some (.int .i64 W) ∧ w1.cell? ⟨w.heap.size, 1, none⟩ = some (.int .u64 (LO (n))) ∧ w1.cell? ⟨w.heap.size, 2, none⟩ = some (.int .u64 (HI (n))) ∧ (∀ o, w1.frozen? ⟨w.heap.size, o, none⟩ = false) ∧ w1.cell? ⟨w.heap.size + 1, 0, none⟩ = some (cv w1 ⟨w.heap.size + 1, 0, none⟩) ∧ w1.cell? ⟨w.heap.size + 1, 1, none⟩ = some (cv w1 ⟨w.heap.size + 1, 1, none⟩) ∧ w1.cell? ⟨w.heap.size + 1, 2, none⟩ = some (cv w1 ⟨w.heap.size + 1, 2, none⟩) ∧ (∀ o, w1.frozen? ⟨w.heap.size + 1, o, none⟩ = false) := ⟨keep_cell hb1 (by first | (simp [go_sem]; done)), keep_cell hb1 (by first | (simp [go_sem]; done)), keep_cell hb1 (by first | (simp [go_sem]; done)), keep_frozen2 hb1 (by first | (simp [go_sem]; done)) (by first | (simp [go_sem]; done)), keep_some hb1 (by first | (simp [go_sem]; done)), keep_some hb1 (by first | (simp [go_sem]; done)), keep_some hb1 (by first | (simp [go_sem]; done)), keep_frozen2 hb1 (by first | (simp [go_sem]; done)) (by first | (simp [go_sem]; done))⟩; have KF1z0 : w.heap.size < w1.heap.size := World.block_lt_of_cell? _ _ KF1.1; have KF1z1 : w.heap.size + 1 < w1.heap.size := World.block_lt_of_cell? _ _ KF1.2.2.2.2.1
  clear hb1
  go_wp2_with fail
  refine bodyPost_ret (v := .agg #[.int .i64 W, .int .u64 (LO (2 ^ W - 1 - n)), .int .u64 (HI (2 ^ W - 1 - n))]) (by simp [results, Try.results35, go_sem, *]) rfl ?_
  exact ⟨rfl, by go_grown⟩

set_option maxHeartbeats 400000 in
theorem lawone_neg {W n : Nat} {WW lo hi : Int} (hw : Wd WW lo hi W n) (w : World) :
    Calls Try.prog 35 #[.int .i64 11, .agg #[.int .i64 WW, .int .u64 lo, .int .u64 hi]] w fun e w' => e = .returned (.agg #[.int .i64 W, .int .u64 (LO (neg W n)), .int .u64 (HI (neg W n))]) ∧ Below w.heap.size w w' := by
  obtain ⟨h1, h2, hn, rfl, rfl, rfl⟩ := hw
  go_enter Try.func35, Try.ntmps35
  go_wp2_with fail
  refine (one_neg (Wd.mk' h1 h2 hn) _).mono ?_
  rintro e w1 ⟨rfl, hb1⟩
  have hb1' := below_step (w := w) (by go_grown) hb1
  have hs1 := hb1'.size
  have KF1 : w1.cell? ⟨w.heap.size, 0, none⟩ = some (.int .i64 W) ∧ w1.cell? ⟨w.heap.size, 1, none⟩ = some (.int .u64 (LO (n))) ∧ w1.cell? ⟨w.heap.size, 2, none⟩ = some (.int .u64 (HI (n))) ∧ (∀ o, w1.frozen? ⟨w.heap.size, o, none⟩ = false) ∧ w1.cell? ⟨w.heap.size + 1, 0, none⟩ = some (cv w1 ⟨w.heap.size + 1, 0, none⟩) ∧ w1.cell? ⟨w.heap.size + 1, 1, none⟩ = some (cv w1 ⟨w.heap.size + 1, 1, none⟩) ∧ w1.cell? ⟨w.heap.size + 1, 2, none⟩ = some (cv w1 ⟨w.heap.size + 1, 2, none⟩) ∧ (∀ o, w1.frozen? ⟨w.heap.size + 1, o, none⟩ = false) := ⟨keep_cell hb1 (by first | (simp [go_sem]; done)), keep_cell hb1 (by first | (simp [go_sem]; done)), keep_cell hb1 (by first | (simp [go_sem]; done)), keep_frozen2 hb1 (by first | (simp [go_sem]; done)) (by first | (simp [go_sem]; done)), keep_some hb1 (by first | (simp [go_sem]; done)), keep_some hb1 (by first | (simp [go_sem]; done)), keep_some hb1 (by first | (simp [go_sem]; done)), keep_frozen2 hb1 (by first | (simp [go_sem]; done)) (by first | (simp [go_sem]; done))⟩; have KF1z0 : w.heap.size < w1.heap.size := World.block_lt_of_cell? _ _ KF1.1; have KF1z1 : w.heap.size + 1 < w1.heap.size := World.block_lt_of_cell? _ _ KF1.2.2.2.2.1
  clear hb1
  go_wp2_with fail
  refine bodyPost_ret (v := .agg #[.int .i64 W, .int .u64 (LO (neg W n)), .int .u64 (HI (neg W n))]) (by simp [results, Try.results35, go_sem, *]) rfl ?_
  exact ⟨rfl, by go_grown⟩

set_option maxHeartbeats 400000 in
theorem small_any {W k : Nat} {WW kk : Int} (h1 : 1 ≤ W) (h2 : W ≤ 128) (hw : WW = W) (hk : kk = k) (hk2 : k < 2 ^ 62) (w : World) :
    Calls Try.prog 37 #[.int .i64 WW, .int .i64 kk] w fun e w' => e = .returned (.agg #[.int .i64 W, .int .u64 (LO (k % 2 ^ W)), .int .u64 (HI (k % 2 ^ W))]) ∧ Below w.heap.size w w' := by
  subst hw hk
  have hl : (k : Int) = LO k := by unfold LO; omega
  have hh : (0 : Int) = HI k := by unfold HI; omega
  have HL : Hid _ := hl
  have HH : Hid _ := hh
  clear hl hh
  go_enter Try.func37, Try.ntmps37
  go_wp2_with fail
  refine (new_any (m := k) (r := k % 2 ^ W) h1 h2 (by omega) rfl rfl HL.out HH.out _).mono ?_
  rintro e w1 ⟨rfl, hb1⟩
  have hb1' := below_step (w := w) (by go_grown) hb1
  have hs1 := hb1'.size
  have KF1 : w1.cell? ⟨w.heap.size, 0, none⟩ = some (cv w1 ⟨w.heap.size, 0, none⟩) ∧ w1.cell? ⟨w.heap.size, 1, none⟩ = some (cv w1 ⟨w.heap.size, 1, none⟩) ∧ w1.cell? ⟨w.heap.size, 2, none⟩ = some (cv w1 ⟨w.heap.size, 2, none⟩) ∧ (∀ o, w1.frozen? ⟨w.heap.size, o, none⟩ = false) := ⟨keep_some hb1 (by first | (simp [go_sem]; done)), keep_some hb1 (by first | (simp [go_sem]; done)), keep_some hb1 (by first | (simp [go_sem]; done)), keep_frozen2 hb1 (by first | (simp [go_sem]; done)) (by first | (simp [go_sem]; done))⟩; have KF1z0 : w.heap.size < w1.heap.size := World.block_lt_of_cell? _ _ KF1.1
  clear hb1
  go_wp2_with fail
  refine bodyPost_ret (v := .agg #[.int .i64 W, .int .u64 (LO (k % 2 ^ W)), .int .u64 (HI (k % 2 ^ W))]) (by simp [results, Try.results37, go_sem, *]) rfl ?_
  exact ⟨rfl, by go_grown⟩

set_option maxHeartbeats 400000 in
theorem minus_any {W n : Nat} {WW lo hi : Int} (hw : Wd WW lo hi W n) (w : World) :
    Calls Try.prog 36 #[.agg #[.int .i64 WW, .int .u64 lo, .int .u64 hi]] w fun e w' => e = .returned (.bool (n.testBit (W - 1))) ∧ Below w.heap.size w w' := by
  obtain ⟨h1, h2, hn, rfl, rfl, rfl⟩ := hw
  go_enter Try.func36, Try.ntmps36
  go_wp2_with fail
  refine (bit_any (i := W - 1) (Wd.mk' h1 h2 hn) (by omega) (by omega) _).mono ?_
  rintro e w1 ⟨rfl, hb1⟩
  have hb1' := below_step (w := w) (by go_grown) hb1
  have hs1 := hb1'.size
  have KF1 : w1.cell? ⟨w.heap.size, 0, none⟩ = some (.int .i64 W) ∧ w1.cell? ⟨w.heap.size, 1, none⟩ = some (.int .u64 (LO (n))) ∧ w1.cell? ⟨w.heap.size, 2, none⟩ = some (.int .u64 (HI (n))) ∧ (∀ o, w1.frozen? ⟨w.heap.size, o, none⟩ = false) := ⟨keep_cell hb1 (by first | (simp [go_sem]; done)), keep_cell hb1 (by first | (simp [go_sem]; done)), keep_cell hb1 (by first | (simp [go_sem]; done)), keep_frozen2 hb1 (by first | (simp [go_sem]; done)) (by first | (simp [go_sem]; done))⟩; have KF1z0 : w.heap.size < w1.heap.size := World.block_lt_of_cell? _ _ KF1.1
  clear hb1
  go_wp2_with fail
  go_ret
  exact ⟨rfl, by go_grown⟩

set_option maxHeartbeats 400000 in
theorem four_any {n : Nat} {x : Int} (hx : x = LO n) (hn : n < 16) (w : World) :
    Calls Try.prog 64 #[.int .u64 x] w fun e w' => e = .returned (.agg #[.int .i64 ((4 : Nat) : Int), .int .u64 (LO (n)), .int .u64 (HI (n))]) ∧ Below w.heap.size w w' := by
  subst hx
  have HH : Hid ((0 : Int) = HI n) := by unfold Hid HI; omega
  go_enter Try.func64, Try.ntmps64
  go_wp2_with fail
  refine bodyPost_ret (v := .agg #[.int .i64 4, .int .u64 (LO n), .int .u64 0]) (by simp [results, Try.results64, go_sem]) rfl ?_
  exact ⟨by rw [HH.out]; rfl, by go_grown⟩
end Go.Proofs.Ytjcmnhipiejnpaa
