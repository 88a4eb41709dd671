/- Contracts: the examples' calls, at their own numbers. -/
import Derived.Test.YtjcmnhipiejnpaaJN
import Derived.Test.YtjcmnhipiejnpaaL
namespace Go.Proofs.Ytjcmnhipiejnpaa
open Go.RowKit
set_option linter.unusedSimpArgs false
set_option linter.unusedVariables false

set_option maxHeartbeats 400000 in
theorem two_signed {W n m N : Nat} {op WW lo hi WW' lo' hi' : Int} (hop : (op = 23 ∧ N = sdiv W n m) ∨ (op = 24 ∧ N = srem W n m) ∨ (op = 25 ∧ N = smod W n m)) (hw : Wd WW lo hi W n) (hw' : Wd WW' lo' hi' W m) (w : World) :
    Calls Try.prog 42 #[.int .i64 op, .agg #[.int .i64 WW, .int .u64 lo, .int .u64 hi], .agg #[.int .i64 WW', .int .u64 lo', .int .u64 hi']] w fun e w' => e = .returned (.tuple #[.agg #[.int .i64 W, .int .u64 (LO (N)), .int .u64 (HI (N))], .int .i64 0]) ∧ Below w.heap.size w w' := by
  obtain ⟨h1, h2, hn, rfl, rfl, rfl⟩ := hw
  obtain ⟨-, -, hn', rfl, rfl, rfl⟩ := hw'
  have HC : Hid (∀ wx, Calls Try.prog 68 #[.int .i64 op, .agg #[.int .i64 W, .int .u64 (LO (n)), .int .u64 (HI (n))], .agg #[.int .i64 W, .int .u64 (LO (m)), .int .u64 (HI (m))]] wx fun e w' => e = .returned (.agg #[.int .i64 W, .int .u64 (LO (N)), .int .u64 (HI (N))]) ∧ Below wx.heap.size wx w') := fun wx => signed_any hop (Wd.mk' h1 h2 hn) (Wd.mk' h1 h2 hn') wx
  have hop3 : op = 23 ∨ op = 24 ∨ op = 25 := by rcases hop with h | h | h <;> simp [h.1]
  clear hop
  rcases hop3 with rfl | rfl | rfl
  · go_enter Try.func42, Try.ntmps42
    go_wp2_with fail
    refine (isWord_any (Wd.mk' h1 h2 hn) _).mono ?_
    rintro e w1 ⟨rfl, hb1⟩
    have hb1' := below_step (w := w) (by go_grown) hb1
    have hs1 := hb1'.size
    have KF1 : w1.cell? ⟨w.heap.size, 0, none⟩ = some (.int .i64 W) ∧ w1.cell? ⟨w.heap.size, 1, none⟩ = some (.int .u64 (LO (n))) ∧ w1.cell? ⟨w.heap.size, 2, none⟩ = some (.int .u64 (HI (n))) ∧ (∀ o, w1.frozen? ⟨w.heap.size, o, none⟩ = false) ∧ w1.cell? ⟨w.heap.size + 1, 0, none⟩ = some (.int .i64 W) ∧ w1.cell? ⟨w.heap.size + 1, 1, none⟩ = some (.int .u64 (LO (m))) ∧ w1.cell? ⟨w.heap.size + 1, 2, none⟩ = some (.int .u64 (HI (m))) ∧ (∀ o, w1.frozen? ⟨w.heap.size + 1, o, none⟩ = false) ∧ w1.cell? ⟨w.heap.size + 1 + 1, 0, none⟩ = some (cv w1 ⟨w.heap.size + 1 + 1, 0, none⟩) ∧ w1.cell? ⟨w.heap.size + 1 + 1, 1, none⟩ = some (cv w1 ⟨w.heap.size + 1 + 1, 1, none⟩) ∧ w1.cell? ⟨w.heap.size + 1 + 1, 2, none⟩ = some (cv w1 ⟨w.heap.size + 1 + 1, 2, none⟩) ∧ (∀ o, w1.frozen? ⟨w.heap.size + 1 + 1, o, none⟩ = false) := ⟨keep_cell hb1 (by first | (simp [go_sem]; done)), keep_cell hb1 (by first | (simp [go_sem]; done)), keep_cell hb1 (by first | (simp [go_sem]; done)), keep_frozen2 hb1 (by first | (simp [go_sem]; done)) (by first | (simp [go_sem]; done)), keep_cell hb1 (by first | (simp [go_sem]; done)), keep_cell hb1 (by first | (simp [go_sem]; done)), keep_cell hb1 (by first | (simp [go_sem]; done)), keep_frozen2 hb1 (by first | (simp [go_sem]; done)) (by first | (simp [go_sem]; done)), keep_some hb1 (by first | (simp [go_sem]; done)), keep_some hb1 (by first | (simp [go_sem]; done)), keep_some hb1 (by first | (simp [go_sem]; done)), keep_frozen2 hb1 (by first | (simp [go_sem]; done)) (by first | (simp [go_sem]; done))⟩; have KF1z0 : w.heap.size < w1.heap.size := World.block_lt_of_cell? _ _ KF1.1; have KF1z1 : w.heap.size + 1 < w1.heap.size := World.block_lt_of_cell? _ _ KF1.2.2.2.2.1; have KF1z2 : w.heap.size + 1 + 1 < w1.heap.size := World.block_lt_of_cell? _ _ KF1.2.2.2.2.2.2.2.2.1
    clear hb1
    go_wp2_with fail
    refine (isWord_any (Wd.mk' h1 h2 hn') _).mono ?_
    rintro e w2 ⟨rfl, hb2⟩
    have hb2' := below_step (w := w) (by go_grown) hb2
    have hs2 := hb2'.size
    have KF2 : w2.cell? ⟨w.heap.size, 0, none⟩ = some (.int .i64 W) ∧ w2.cell? ⟨w.heap.size, 1, none⟩ = some (.int .u64 (LO (n))) ∧ w2.cell? ⟨w.heap.size, 2, none⟩ = some (.int .u64 (HI (n))) ∧ (∀ o, w2.frozen? ⟨w.heap.size, o, none⟩ = false) ∧ w2.cell? ⟨w.heap.size + 1, 0, none⟩ = some (.int .i64 W) ∧ w2.cell? ⟨w.heap.size + 1, 1, none⟩ = some (.int .u64 (LO (m))) ∧ w2.cell? ⟨w.heap.size + 1, 2, none⟩ = some (.int .u64 (HI (m))) ∧ (∀ o, w2.frozen? ⟨w.heap.size + 1, o, none⟩ = false) ∧ w2.cell? ⟨w.heap.size + 1 + 1, 0, none⟩ = some (cv w2 ⟨w.heap.size + 1 + 1, 0, none⟩) ∧ w2.cell? ⟨w.heap.size + 1 + 1, 1, none⟩ = some (cv w2 ⟨w.heap.size + 1 + 1, 1, none⟩) ∧ w2.cell? ⟨w.heap.size + 1 + 1, 2, none⟩ = some (cv w2 ⟨w.heap.size + 1 + 1, 2, none⟩) ∧ (∀ o, w2.frozen? ⟨w.heap.size + 1 + 1, o, none⟩ = false) := ⟨keep_cell hb2 (by first | (simp [go_sem]; done) | (simp [go_sem, KF1]; done) | (simp [go_sem, KF1, World.cell?_alloc_some]; done) | (simp [go_sem, KF1, frozen?_alloc_cells]; done)), keep_cell hb2 (by first | (simp [go_sem]; done) | (simp [go_sem, KF1]; done) | (simp [go_sem, KF1, World.cell?_alloc_some]; done) | (simp [go_sem, KF1, frozen?_alloc_cells]; done)), keep_cell hb2 (by first | (simp [go_sem]; done) | (simp [go_sem, KF1]; done) | (simp [go_sem, KF1, World.cell?_alloc_some]; done) | (simp [go_sem, KF1, frozen?_alloc_cells]; done)), keep_frozen2 hb2 (by first | (simp [go_sem]; done) | (simp [go_sem, KF1]; done) | (simp [go_sem, KF1, World.cell?_alloc_some]; done) | (simp [go_sem, KF1, frozen?_alloc_cells]; done)) (by first | (simp [go_sem]; done) | (simp [go_sem, KF1]; done) | (simp [go_sem, KF1, World.cell?_alloc_some]; done) | (simp [go_sem, KF1, frozen?_alloc_cells]; done)), keep_cell hb2 (by first | (simp [go_sem]; done) | (simp [go_sem, KF1]; done) | (simp [go_sem, KF1, World.cell?_alloc_some]; done) | (simp [go_sem, KF1, frozen?_alloc_cells]; done)), keep_cell hb2 (by first | (simp [go_sem]; done) | (simp [go_sem, KF1]; done) | (simp [go_sem, KF1, World.cell?_alloc_some]; done) | (simp [go_sem, KF1, frozen?_alloc_cells]; done)), keep_cell hb2 (by first | (simp [go_sem]; done) | (simp [go_sem, KF1]; done) | (simp [go_sem, KF1, World.cell?_alloc_some]; done) | (simp [go_sem, KF1, frozen?_alloc_cells]; done)), keep_frozen2 hb2 (by first | (simp [go_sem]; done) | (simp [go_sem, KF1]; done) | (simp [go_sem, KF1, World.cell?_alloc_some]; done) | (simp [go_sem, KF1, frozen?_alloc_cells]; done)) (by first | (simp [go_sem]; done) | (simp [go_sem, KF1]; done) | (simp [go_sem, KF1, World.cell?_alloc_some]; done) | (simp [go_sem, KF1, frozen?_alloc_cells]; done)), keep_some hb2 (by first | (simp [go_sem]; done) | (simp [go_sem, KF1]; done) | (simp [go_sem, KF1, World.cell?_alloc_some]; done) | (simp [go_sem, KF1, frozen?_alloc_cells]; done)), keep_some hb2 (by first | (simp [go_sem]; done) | (simp [go_sem, KF1]; done) | (simp [go_sem, KF1, World.cell?_alloc_some]; done) | (simp [go_sem, KF1, frozen?_alloc_cells]; done)), keep_some hb2 (by first | (simp [go_sem]; done) | (simp [go_sem, KF1]; done) | (simp [go_sem, KF1, World.cell?_alloc_some]; done) | (simp [go_sem, KF1, frozen?_alloc_cells]; done)), keep_frozen2 hb2 (by first | (simp [go_sem]; done) | (simp [go_sem, KF1]; done) | (simp [go_sem, KF1, World.cell?_alloc_some]; done) | (simp [go_sem, KF1, frozen?_alloc_cells]; done)) (by first | (simp [go_sem]; done) | (simp [go_sem, KF1]; done) | (simp [go_sem, KF1, World.cell?_alloc_some]; done) | (simp [go_sem, KF1, frozen?_alloc_cells]; done))⟩; have KF2z0 : w.heap.size < w2.heap.size := World.block_lt_of_cell? _ _ KF2.1; have KF2z1 : w.heap.size + 1 < w2.heap.size := World.block_lt_of_cell? _ _ KF2.2.2.2.2.1; have KF2z2 : w.heap.size + 1 + 1 < w2.heap.size := World.block_lt_of_cell? _ _ KF2.2.2.2.2.2.2.2.2.1
    clear hb2 KF1
    go_wp2_with fail
    refine (HC.out _).mono ?_
    rintro e w3 ⟨rfl, hb3⟩
    have hb3' := below_step (w := w) (by go_grown) hb3
    have hs3 := hb3'.size
    have KF3 : w3.cell? ⟨w.heap.size, 0, none⟩ = some (.int .i64 W) ∧ w3.cell? ⟨w.heap.size, 1, none⟩ = some (.int .u64 (LO (n))) ∧ w3.cell? ⟨w.heap.size, 2, none⟩ = some (.int .u64 (HI (n))) ∧ (∀ o, w3.frozen? ⟨w.heap.size, o, none⟩ = false) ∧ w3.cell? ⟨w.heap.size + 1, 0, none⟩ = some (.int .i64 W) ∧ w3.cell? ⟨w.heap.size + 1, 1, none⟩ = some (.int .u64 (LO (m))) ∧ w3.cell? ⟨w.heap.size + 1, 2, none⟩ = some (.int .u64 (HI (m))) ∧ (∀ o, w3.frozen? ⟨w.heap.size + 1, o, none⟩ = false) ∧ w3.cell? ⟨w.heap.size + 1 + 1, 0, none⟩ = some (cv w3 ⟨w.heap.size + 1 + 1, 0, none⟩) ∧ w3.cell? ⟨w.heap.size + 1 + 1, 1, none⟩ = some (cv w3 ⟨w.heap.size + 1 + 1, 1, none⟩) ∧ w3.cell? ⟨w.heap.size + 1 + 1, 2, none⟩ = some (cv w3 ⟨w.heap.size + 1 + 1, 2, none⟩) ∧ (∀ o, w3.frozen? ⟨w.heap.size + 1 + 1, o, none⟩ = false) := ⟨keep_cell hb3 (by first | (simp [go_sem]; done) | (simp [go_sem, KF2]; done) | (simp [go_sem, KF2, World.cell?_alloc_some]; done) | (simp [go_sem, KF2, frozen?_alloc_cells]; done)), keep_cell hb3 (by first | (simp [go_sem]; done) | (simp [go_sem, KF2]; done) | (simp [go_sem, KF2, World.cell?_alloc_some]; done) | (simp [go_sem, KF2, frozen?_alloc_cells]; done)), keep_cell hb3 (by first | (simp [go_sem]; done) | (simp [go_sem, KF2]; done) | (simp [go_sem, KF2, World.cell?_alloc_some]; done) | (simp [go_sem, KF2, frozen?_alloc_cells]; done)), keep_frozen2 hb3 (by first | (simp [go_sem]; done) | (simp [go_sem, KF2]; done) | (simp [go_sem, KF2, World.cell?_alloc_some]; done) | (simp [go_sem, KF2, frozen?_alloc_cells]; done)) (by first | (simp [go_sem]; done) | (simp [go_sem, KF2]; done) | (simp [go_sem, KF2, World.cell?_alloc_some]; done) | (simp [go_sem, KF2, frozen?_alloc_cells]; done)), keep_cell hb3 (by first | (simp [go_sem]; done) | (simp [go_sem, KF2]; done) | (simp [go_sem, KF2, World.cell?_alloc_some]; done) | (simp [go_sem, KF2, frozen?_alloc_cells]; done)), keep_cell hb3 (by first | (simp [go_sem]; done) | (simp [go_sem, KF2]; done) | (simp [go_sem, KF2, World.cell?_alloc_some]; done) | (simp [go_sem, KF2, frozen?_alloc_cells]; done)), keep_cell hb3 (by first | (simp [go_sem]; done) | (simp [go_sem, KF2]; done) | (simp [go_sem, KF2, World.cell?_alloc_some]; done) | (simp [go_sem, KF2, frozen?_alloc_cells]; done)), keep_frozen2 hb3 (by first | (simp [go_sem]; done) | (simp [go_sem, KF2]; done) | (simp [go_sem, KF2, World.cell?_alloc_some]; done) | (simp [go_sem, KF2, frozen?_alloc_cells]; done)) (by first | (simp [go_sem]; done) | (simp [go_sem, KF2]; done) | (simp [go_sem, KF2, World.cell?_alloc_some]; done) | (simp [go_sem, KF2, frozen?_alloc_cells]; done)), keep_some hb3 (by first | (simp [go_sem]; done) | (simp [go_sem, KF2]; done) | (simp [go_sem, KF2, World.cell?_alloc_some]; done) | (simp [go_sem, KF2, frozen?_alloc_cells]; done)), keep_some hb3 (by first | (simp [go_sem]; done) | (simp [go_sem, KF2]; done) | (simp [go_sem, KF2, World.cell?_alloc_some]; done) | (simp [go_sem, KF2, frozen?_alloc_cells]; done)), keep_some hb3 (by first | (simp [go_sem]; done) | (simp [go_sem, KF2]; done) | (simp [go_sem, KF2, World.cell?_alloc_some]; done) | (simp [go_sem, KF2, frozen?_alloc_cells]; done)), keep_frozen2 hb3 (by first | (simp [go_sem]; done) | (simp [go_sem, KF2]; done) | (simp [go_sem, KF2, World.cell?_alloc_some]; done) | (simp [go_sem, KF2, frozen?_alloc_cells]; done)) (by first | (simp [go_sem]; done) | (simp [go_sem, KF2]; done) | (simp [go_sem, KF2, World.cell?_alloc_some]; done) | (simp [go_sem, KF2, frozen?_alloc_cells]; done))⟩; have KF3z0 : w.heap.size < w3.heap.size := World.block_lt_of_cell? _ _ KF3.1; have KF3z1 : w.heap.size + 1 < w3.heap.size := World.block_lt_of_cell? _ _ KF3.2.2.2.2.1; have KF3z2 : w.heap.size + 1 + 1 < w3.heap.size := World.block_lt_of_cell? _ _ KF3.2.2.2.2.2.2.2.2.1
    clear hb3 KF2
    go_wp2_with fail
    refine bodyPost_ret (v := .tuple #[.agg #[.int .i64 W, .int .u64 (LO (N)), .int .u64 (HI (N))], .int .i64 0]) (by simp [results, Try.results42, go_sem, *]) rfl ?_
    exact ⟨rfl, by go_grown⟩
  · go_enter Try.func42, Try.ntmps42
    go_wp2_with fail
    refine (isWord_any (Wd.mk' h1 h2 hn) _).mono ?_
    rintro e w1 ⟨rfl, hb1⟩
    have hb1' := below_step (w := w) (by go_grown) hb1
    have hs1 := hb1'.size
    have KF1 : w1.cell? ⟨w.heap.size, 0, none⟩ = some (.int .i64 W) ∧ w1.cell? ⟨w.heap.size, 1, none⟩ = some (.int .u64 (LO (n))) ∧ w1.cell? ⟨w.heap.size, 2, none⟩ = some (.int .u64 (HI (n))) ∧ (∀ o, w1.frozen? ⟨w.heap.size, o, none⟩ = false) ∧ w1.cell? ⟨w.heap.size + 1, 0, none⟩ = some (.int .i64 W) ∧ w1.cell? ⟨w.heap.size + 1, 1, none⟩ = some (.int .u64 (LO (m))) ∧ w1.cell? ⟨w.heap.size + 1, 2, none⟩ = some (.int .u64 (HI (m))) ∧ (∀ o, w1.frozen? ⟨w.heap.size + 1, o, none⟩ = false) ∧ w1.cell? ⟨w.heap.size + 1 + 1, 0, none⟩ = some (cv w1 ⟨w.heap.size + 1 + 1, 0, none⟩) ∧ w1.cell? ⟨w.heap.size + 1 + 1, 1, none⟩ = some (cv w1 ⟨w.heap.size + 1 + 1, 1, none⟩) ∧ w1.cell? ⟨w.heap.size + 1 + 1, 2, none⟩ = some (cv w1 ⟨w.heap.size + 1 + 1, 2, none⟩) ∧ (∀ o, w1.frozen? ⟨w.heap.size + 1 + 1, o, none⟩ = false) := ⟨keep_cell hb1 (by first | (simp [go_sem]; done)), keep_cell hb1 (by first | (simp [go_sem]; done)), keep_cell hb1 (by first | (simp [go_sem]; done)), keep_frozen2 hb1 (by first | (simp [go_sem]; done)) (by first | (simp [go_sem]; done)), keep_cell hb1 (by first | (simp [go_sem]; done)), keep_cell hb1 (by first | (simp [go_sem]; done)), keep_cell hb1 (by first | (simp [go_sem]; done)), keep_frozen2 hb1 (by first | (simp [go_sem]; done)) (by first | (simp [go_sem]; done)), keep_some hb1 (by first | (simp [go_sem]; done)), keep_some hb1 (by first | (simp [go_sem]; done)), keep_some hb1 (by first | (simp [go_sem]; done)), keep_frozen2 hb1 (by first | (simp [go_sem]; done)) (by first | (simp [go_sem]; done))⟩; have KF1z0 : w.heap.size < w1.heap.size := World.block_lt_of_cell? _ _ KF1.1; have KF1z1 : w.heap.size + 1 < w1.heap.size := World.block_lt_of_cell? _ _ KF1.2.2.2.2.1; have KF1z2 : w.heap.size + 1 + 1 < w1.heap.size := World.block_lt_of_cell? _ _ KF1.2.2.2.2.2.2.2.2.1
    clear hb1
    go_wp2_with fail
    refine (isWord_any (Wd.mk' h1 h2 hn') _).mono ?_
    rintro e w2 ⟨rfl, hb2⟩
    have hb2' := below_step (w := w) (by go_grown) hb2
    have hs2 := hb2'.size
    have KF2 : w2.cell? ⟨w.heap.size, 0, none⟩ = some (.int .i64 W) ∧ w2.cell? ⟨w.heap.size, 1, none⟩ = some (.int .u64 (LO (n))) ∧ w2.cell? ⟨w.heap.size, 2, none⟩ = some (.int .u64 (HI (n))) ∧ (∀ o, w2.frozen? ⟨w.heap.size, o, none⟩ = false) ∧ w2.cell? ⟨w.heap.size + 1, 0, none⟩ = some (.int .i64 W) ∧ w2.cell? ⟨w.heap.size + 1, 1, none⟩ = some (.int .u64 (LO (m))) ∧ w2.cell? ⟨w.heap.size + 1, 2, none⟩ = some (.int .u64 (HI (m))) ∧ (∀ o, w2.frozen? ⟨w.heap.size + 1, o, none⟩ = false) ∧ w2.cell? ⟨w.heap.size + 1 + 1, 0, none⟩ = some (cv w2 ⟨w.heap.size + 1 + 1, 0, none⟩) ∧ w2.cell? ⟨w.heap.size + 1 + 1, 1, none⟩ = some (cv w2 ⟨w.heap.size + 1 + 1, 1, none⟩) ∧ w2.cell? ⟨w.heap.size + 1 + 1, 2, none⟩ = some (cv w2 ⟨w.heap.size + 1 + 1, 2, none⟩) ∧ (∀ o, w2.frozen? ⟨w.heap.size + 1 + 1, o, none⟩ = false) := ⟨keep_cell hb2 (by first | (simp [go_sem]; done) | (simp [go_sem, KF1]; done) | (simp [go_sem, KF1, World.cell?_alloc_some]; done) | (simp [go_sem, KF1, frozen?_alloc_cells]; done)), keep_cell hb2 (by first | (simp [go_sem]; done) | (simp [go_sem, KF1]; done) | (simp [go_sem, KF1, World.cell?_alloc_some]; done) | (simp [go_sem, KF1, frozen?_alloc_cells]; done)), keep_cell hb2 (by first | (simp [go_sem]; done) | (simp [go_sem, KF1]; done) | (simp [go_sem, KF1, World.cell?_alloc_some]; done) | (simp [go_sem, KF1, frozen?_alloc_cells]; done)), keep_frozen2 hb2 (by first | (simp [go_sem]; done) | (simp [go_sem, KF1]; done) | (simp [go_sem, KF1, World.cell?_alloc_some]; done) | (simp [go_sem, KF1, frozen?_alloc_cells]; done)) (by first | (simp [go_sem]; done) | (simp [go_sem, KF1]; done) | (simp [go_sem, KF1, World.cell?_alloc_some]; done) | (simp [go_sem, KF1, frozen?_alloc_cells]; done)), keep_cell hb2 (by first | (simp [go_sem]; done) | (simp [go_sem, KF1]; done) | (simp [go_sem, KF1, World.cell?_alloc_some]; done) | (simp [go_sem, KF1, frozen?_alloc_cells]; done)), keep_cell hb2 (by first | (simp [go_sem]; done) | (simp [go_sem, KF1]; done) | (simp [go_sem, KF1, World.cell?_alloc_some]; done) | (simp [go_sem, KF1, frozen?_alloc_cells]; done)), keep_cell hb2 (by first | (simp [go_sem]; done) | (simp [go_sem, KF1]; done) | (simp [go_sem, KF1, World.cell?_alloc_some]; done) | (simp [go_sem, KF1, frozen?_alloc_cells]; done)), keep_frozen2 hb2 (by first | (simp [go_sem]; done) | (simp [go_sem, KF1]; done) | (simp [go_sem, KF1, World.cell?_alloc_some]; done) | (simp [go_sem, KF1, frozen?_alloc_cells]; done)) (by first | (simp [go_sem]; done) | (simp [go_sem, KF1]; done) | (simp [go_sem, KF1, World.cell?_alloc_some]; done) | (simp [go_sem, KF1, frozen?_alloc_cells]; done)), keep_some hb2 (by first | (simp [go_sem]; done) | (simp [go_sem, KF1]; done) | (simp [go_sem, KF1, World.cell?_alloc_some]; done) | (simp [go_sem, KF1, frozen?_alloc_cells]; done)), keep_some hb2 (by first | (simp [go_sem]; done) | (simp [go_sem, KF1]; done) | (simp [go_sem, KF1, World.cell?_alloc_some]; done) | (simp [go_sem, KF1, frozen?_alloc_cells]; done)), keep_some hb2 (by first | (simp [go_sem]; done) | (simp [go_sem, KF1]; done) | (simp [go_sem, KF1, World.cell?_alloc_some]; done) | (simp [go_sem, KF1, frozen?_alloc_cells]; done)), keep_frozen2 hb2 (by first | (simp [go_sem]; done) | (simp [go_sem, KF1]; done) | (simp [go_sem, KF1, World.cell?_alloc_some]; done) | (simp [go_sem, KF1, frozen?_alloc_cells]; done)) (by first | (simp [go_sem]; done) | (simp [go_sem, KF1]; done) | (simp [go_sem, KF1, World.cell?_alloc_some]; done) | (simp [go_sem, KF1, frozen?_alloc_cells]; done))⟩; have KF2z0 : w.heap.size < w2.heap.size := World.block_lt_of_cell? _ _ KF2.1; have KF2z1 : w.heap.size + 1 < w2.heap.size := World.block_lt_of_cell? _ _ KF2.2.2.2.2.1; have KF2z2 : w.heap.size + 1 + 1 < w2.heap.size := World.block_lt_of_cell? _ _ KF2.2.2.2.2.2.2.2.2.1
    clear hb2 KF1
    go_wp2_with fail
    refine (HC.out _).mono ?_
    rintro e w3 ⟨rfl, hb3⟩
    have hb3' := below_step (w := w) (by go_grown) hb3
    have hs3 := hb3'.size
    have KF3 : w3.cell? ⟨w.heap.size, 0, none⟩ = some (.int .i64 W) ∧ w3.cell? ⟨w.heap.size, 1, none⟩ = some (.int .u64 (LO (n))) ∧ w3.cell? ⟨w.heap.size, 2, none⟩ = some (.int .u64 (HI (n))) ∧ (∀ o, w3.frozen? ⟨w.heap.size, o, none⟩ = false) ∧ w3.cell? ⟨w.heap.size + 1, 0, none⟩ = some (.int .i64 W) ∧ w3.cell? ⟨w.heap.size + 1, 1, none⟩ = some (.int .u64 (LO (m))) ∧ w3.cell? ⟨w.heap.size + 1, 2, none⟩ = some (.int .u64 (HI (m))) ∧ (∀ o, w3.frozen? ⟨w.heap.size + 1, o, none⟩ = false) ∧ w3.cell? ⟨w.heap.size + 1 + 1, 0, none⟩ = some (cv w3 ⟨w.heap.size + 1 + 1, 0, none⟩) ∧ w3.cell? ⟨w.heap.size + 1 + 1, 1, none⟩ = some (cv w3 ⟨w.heap.size + 1 + 1, 1, none⟩) ∧ w3.cell? ⟨w.heap.size + 1 + 1, 2, none⟩ = some (cv w3 ⟨w.heap.size + 1 + 1, 2, none⟩) ∧ (∀ o, w3.frozen? ⟨w.heap.size + 1 + 1, o, none⟩ = false) := ⟨keep_cell hb3 (by first | (simp [go_sem]; done) | (simp [go_sem, KF2]; done) | (simp [go_sem, KF2, World.cell?_alloc_some]; done) | (simp [go_sem, KF2, frozen?_alloc_cells]; done)), keep_cell hb3 (by first | (simp [go_sem]; done) | (simp [go_sem, KF2]; done) | (simp [go_sem, KF2, World.cell?_alloc_some]; done) | (simp [go_sem, KF2, frozen?_alloc_cells]; done)), keep_cell hb3 (by first | (simp [go_sem]; done) | (simp [go_sem, KF2]; done) | (simp [go_sem, KF2, World.cell?_alloc_some]; done) | (simp [go_sem, KF2, frozen?_alloc_cells]; done)), keep_frozen2 hb3 (by first | (simp [go_sem]; done) | (simp [go_sem, KF2]; done) | (simp [go_sem, KF2, World.cell?_alloc_some]; done) | (simp [go_sem, KF2, frozen?_alloc_cells]; done)) (by first | (simp [go_sem]; done) | (simp [go_sem, KF2]; done) | (simp [go_sem, KF2, World.cell?_alloc_some]; done) | (simp [go_sem, KF2, frozen?_alloc_cells]; done)), keep_cell hb3 (by first | (simp [go_sem]; done) | (simp [go_sem, KF2]; done) | (simp [go_sem, KF2, World.cell?_alloc_some]; done) | (simp [go_sem, KF2, frozen?_alloc_cells]; done)), keep_cell hb3 (by first | (simp [go_sem]; done) | (simp [go_sem, KF2]; done) | (simp [go_sem, KF2, World.cell?_alloc_some]; done) | (simp [go_sem, KF2, frozen?_alloc_cells]; done)), keep_cell hb3 (by first | (simp [go_sem]; done) | (simp [go_sem, KF2]; done) | (simp [go_sem, KF2, World.cell?_alloc_some]; done) | (simp [go_sem, KF2, frozen?_alloc_cells]; done)), keep_frozen2 hb3 (by first | (simp [go_sem]; done) | (simp [go_sem, KF2]; done) | (simp [go_sem, KF2, World.cell?_alloc_some]; done) | (simp [go_sem, KF2, frozen?_alloc_cells]; done)) (by first | (simp [go_sem]; done) | (simp [go_sem, KF2]; done) | (simp [go_sem, KF2, World.cell?_alloc_some]; done) | (simp [go_sem, KF2, frozen?_alloc_cells]; done)), keep_some hb3 (by first | (simp [go_sem]; done) | (simp [go_sem, KF2]; done) | (simp [go_sem, KF2, World.cell?_alloc_some]; done) | (simp [go_sem, KF2, frozen?_alloc_cells]; done)), keep_some hb3 (by first | (simp [go_sem]; done) | (simp [go_sem, KF2]; done) | (simp [go_sem, KF2, World.cell?_alloc_some]; done) | (simp [go_sem, KF2, frozen?_alloc_cells]; done)), keep_some hb3 (by first | (simp [go_sem]; done) | (simp [go_sem, KF2]; done) | (simp [go_sem, KF2, World.cell?_alloc_some]; done) | (simp [go_sem, KF2, frozen?_alloc_cells]; done)), keep_frozen2 hb3 (by first | (simp [go_sem]; done) | (simp [go_sem, KF2]; done) | (simp [go_sem, KF2, World.cell?_alloc_some]; done) | (simp [go_sem, KF2, frozen?_alloc_cells]; done)) (by first | (simp [go_sem]; done) | (simp [go_sem, KF2]; done) | (simp [go_sem, KF2, World.cell?_alloc_some]; done) | (simp [go_sem, KF2, frozen?_alloc_cells]; done))⟩; have KF3z0 : w.heap.size < w3.heap.size := World.block_lt_of_cell? _ _ KF3.1; have KF3z1 : w.heap.size + 1 < w3.heap.size := World.block_lt_of_cell? _ _ KF3.2.2.2.2.1; have KF3z2 : w.heap.size + 1 + 1 < w3.heap.size := World.block_lt_of_cell? _ _ KF3.2.2.2.2.2.2.2.2.1
    clear hb3 KF2
    go_wp2_with fail
    refine bodyPost_ret (v := .tuple #[.agg #[.int .i64 W, .int .u64 (LO (N)), .int .u64 (HI (N))], .int .i64 0]) (by simp [results, Try.results42, go_sem, *]) rfl ?_
    exact ⟨rfl, by go_grown⟩
  · go_enter Try.func42, Try.ntmps42
    go_wp2_with fail
    refine (isWord_any (Wd.mk' h1 h2 hn) _).mono ?_
    rintro e w1 ⟨rfl, hb1⟩
    have hb1' := below_step (w := w) (by go_grown) hb1
    have hs1 := hb1'.size
    have KF1 : w1.cell? ⟨w.heap.size, 0, none⟩ = some (.int .i64 W) ∧ w1.cell? ⟨w.heap.size, 1, none⟩ = some (.int .u64 (LO (n))) ∧ w1.cell? ⟨w.heap.size, 2, none⟩ = some (.int .u64 (HI (n))) ∧ (∀ o, w1.frozen? ⟨w.heap.size, o, none⟩ = false) ∧ w1.cell? ⟨w.heap.size + 1, 0, none⟩ = some (.int .i64 W) ∧ w1.cell? ⟨w.heap.size + 1, 1, none⟩ = some (.int .u64 (LO (m))) ∧ w1.cell? ⟨w.heap.size + 1, 2, none⟩ = some (.int .u64 (HI (m))) ∧ (∀ o, w1.frozen? ⟨w.heap.size + 1, o, none⟩ = false) ∧ w1.cell? ⟨w.heap.size + 1 + 1, 0, none⟩ = some (cv w1 ⟨w.heap.size + 1 + 1, 0, none⟩) ∧ w1.cell? ⟨w.heap.size + 1 + 1, 1, none⟩ = some (cv w1 ⟨w.heap.size + 1 + 1, 1, none⟩) ∧ w1.cell? ⟨w.heap.size + 1 + 1, 2, none⟩ = some (cv w1 ⟨w.heap.size + 1 + 1, 2, none⟩) ∧ (∀ o, w1.frozen? ⟨w.heap.size + 1 + 1, o, none⟩ = false) := ⟨keep_cell hb1 (by first | (simp [go_sem]; done)), keep_cell hb1 (by first | (simp [go_sem]; done)), keep_cell hb1 (by first | (simp [go_sem]; done)), keep_frozen2 hb1 (by first | (simp [go_sem]; done)) (by first | (simp [go_sem]; done)), keep_cell hb1 (by first | (simp [go_sem]; done)), keep_cell hb1 (by first | (simp [go_sem]; done)), keep_cell hb1 (by first | (simp [go_sem]; done)), keep_frozen2 hb1 (by first | (simp [go_sem]; done)) (by first | (simp [go_sem]; done)), keep_some hb1 (by first | (simp [go_sem]; done)), keep_some hb1 (by first | (simp [go_sem]; done)), keep_some hb1 (by first | (simp [go_sem]; done)), keep_frozen2 hb1 (by first | (simp [go_sem]; done)) (by first | (simp [go_sem]; done))⟩; have KF1z0 : w.heap.size < w1.heap.size := World.block_lt_of_cell? _ _ KF1.1; have KF1z1 : w.heap.size + 1 < w1.heap.size := World.block_lt_of_cell? _ _ KF1.2.2.2.2.1; have KF1z2 : w.heap.size + 1 + 1 < w1.heap.size := World.block_lt_of_cell? _ _ KF1.2.2.2.2.2.2.2.2.1
    clear hb1
    go_wp2_with fail
    refine (isWord_any (Wd.mk' h1 h2 hn') _).mono ?_
    rintro e w2 ⟨rfl, hb2⟩
    have hb2' := below_step (w := w) (by go_grown) hb2
    have hs2 := hb2'.size
    have KF2 : w2.cell? ⟨w.heap.size, 0, none⟩ = some (.int .i64 W) ∧ w2.cell? ⟨w.heap.size, 1, none⟩ = some (.int .u64 (LO (n))) ∧ w2.cell? ⟨w.heap.size, 2, none⟩ = some (.int .u64 (HI (n))) ∧ (∀ o, w2.frozen? ⟨w.heap.size, o, none⟩ = false) ∧ w2.cell? ⟨w.heap.size + 1, 0, none⟩ = some (.int .i64 W) ∧ w2.cell? ⟨w.heap.size + 1, 1, none⟩ = some (.int .u64 (LO (m))) ∧ w2.cell? ⟨w.heap.size + 1, 2, none⟩ = some (.int .u64 (HI (m))) ∧ (∀ o, w2.frozen? ⟨w.heap.size + 1, o, none⟩ = false) ∧ w2.cell? ⟨w.heap.size + 1 + 1, 0, none⟩ = some (cv w2 ⟨w.heap.size + 1 + 1, 0, none⟩) ∧ w2.cell? ⟨w.heap.size + 1 + 1, 1, none⟩ = some (cv w2 ⟨w.heap.size + 1 + 1, 1, none⟩) ∧ w2.cell? ⟨w.heap.size + 1 + 1, 2, none⟩ = some (cv w2 ⟨w.heap.size + 1 + 1, 2, none⟩) ∧ (∀ o, w2.frozen? ⟨w.heap.size + 1 + 1, o, none⟩ = false) := ⟨keep_cell hb2 (by first | (simp [go_sem]; done) | (simp [go_sem, KF1]; done) | (simp [go_sem, KF1, World.cell?_alloc_some]; done) | (simp [go_sem, KF1, frozen?_alloc_cells]; done)), keep_cell hb2 (by first | (simp [go_sem]; done) | (simp [go_sem, KF1]; done) | (simp [go_sem, KF1, World.cell?_alloc_some]; done) | (simp [go_sem, KF1, frozen?_alloc_cells]; done)), keep_cell hb2 (by first | (simp [go_sem]; done) | (simp [go_sem, KF1]; done) | (simp [go_sem, KF1, World.cell?_alloc_some]; done) | (simp [go_sem, KF1, frozen?_alloc_cells]; done)), keep_frozen2 hb2 (by first | (simp [go_sem]; done) | (simp [go_sem, KF1]; done) | (simp [go_sem, KF1, World.cell?_alloc_some]; done) | (simp [go_sem, KF1, frozen?_alloc_cells]; done)) (by first | (simp [go_sem]; done) | (simp [go_sem, KF1]; done) | (simp [go_sem, KF1, World.cell?_alloc_some]; done) | (simp [go_sem, KF1, frozen?_alloc_cells]; done)), keep_cell hb2 (by first | (simp [go_sem]; done) | (simp [go_sem, KF1]; done) | (simp [go_sem, KF1, World.cell?_alloc_some]; done) | (simp [go_sem, KF1, frozen?_alloc_cells]; done)), keep_cell hb2 (by first | (simp [go_sem]; done) | (simp [go_sem, KF1]; done) | (simp [go_sem, KF1, World.cell?_alloc_some]; done) | (simp [go_sem, KF1, frozen?_alloc_cells]; done)), keep_cell hb2 (by first | (simp [go_sem]; done) | (simp [go_sem, KF1]; done) | (simp [go_sem, KF1, World.cell?_alloc_some]; done) | (simp [go_sem, KF1, frozen?_alloc_cells]; done)), keep_frozen2 hb2 (by first | (simp [go_sem]; done) | (simp [go_sem, KF1]; done) | (simp [go_sem, KF1, World.cell?_alloc_some]; done) | (simp [go_sem, KF1, frozen?_alloc_cells]; done)) (by first | (simp [go_sem]; done) | (simp [go_sem, KF1]; done) | (simp [go_sem, KF1, World.cell?_alloc_some]; done) | (simp [go_sem, KF1, frozen?_alloc_cells]; done)), keep_some hb2 (by first | (simp [go_sem]; done) | (simp [go_sem, KF1]; done) | (simp [go_sem, KF1, World.cell?_alloc_some]; done) | (simp [go_sem, KF1, frozen?_alloc_cells]; done)), keep_some hb2 (by first | (simp [go_sem]; done) | (simp [go_sem, KF1]; done) | (simp [go_sem, KF1, World.cell?_alloc_some]; done) | (simp [go_sem, KF1, frozen?_alloc_cells]; done)), keep_some hb2 (by first | (simp [go_sem]; done) | (simp [go_sem, KF1]; done) | (simp [go_sem, KF1, World.cell?_alloc_some]; done) | (simp [go_sem, KF1, frozen?_alloc_cells]; done)), keep_frozen2 hb2 (by first | (simp [go_sem]; done) | (simp [go_sem, KF1]; done) | (simp [go_sem, KF1, World.cell?_alloc_some]; done) | (simp [go_sem, KF1, frozen?_alloc_cells]; done)) (by first | (simp [go_sem]; done) | (simp [go_sem, KF1]; done) | (simp [go_sem, KF1, World.cell?_alloc_some]; done) | (simp [go_sem, KF1, frozen?_alloc_cells]; done))⟩; have KF2z0 : w.heap.size < w2.heap.size := World.block_lt_of_cell? _ _ KF2.1; have KF2z1 : w.heap.size + 1 < w2.heap.size := World.block_lt_of_cell? _ _ KF2.2.2.2.2.1; have KF2z2 : w.heap.size + 1 + 1 < w2.heap.size := World.block_lt_of_cell? _ _ KF2.2.2.2.2.2.2.2.2.1
    clear hb2 KF1
    go_wp2_with fail
    refine (HC.out _).mono ?_
    rintro e w3 ⟨rfl, hb3⟩
    have hb3' := below_step (w := w) (by go_grown) hb3
    have hs3 := hb3'.size
    have KF3 : w3.cell? ⟨w.heap.size, 0, none⟩ = some (.int .i64 W) ∧ w3.cell? ⟨w.heap.size, 1, none⟩ = some (.int .u64 (LO (n))) ∧ w3.cell? ⟨w.heap.size, 2, none⟩ = some (.int .u64 (HI (n))) ∧ (∀ o, w3.frozen? ⟨w.heap.size, o, none⟩ = false) ∧ w3.cell? ⟨w.heap.size + 1, 0, none⟩ = some (.int .i64 W) ∧ w3.cell? ⟨w.heap.size + 1, 1, none⟩ = some (.int .u64 (LO (m))) ∧ w3.cell? ⟨w.heap.size + 1, 2, none⟩ = some (.int .u64 (HI (m))) ∧ (∀ o, w3.frozen? ⟨w.heap.size + 1, o, none⟩ = false) ∧ w3.cell? ⟨w.heap.size + 1 + 1, 0, none⟩ = some (cv w3 ⟨w.heap.size + 1 + 1, 0, none⟩) ∧ w3.cell? ⟨w.heap.size + 1 + 1, 1, none⟩ = some (cv w3 ⟨w.heap.size + 1 + 1, 1, none⟩) ∧ w3.cell? ⟨w.heap.size + 1 + 1, 2, none⟩ = some (cv w3 ⟨w.heap.size + 1 + 1, 2, none⟩) ∧ (∀ o, w3.frozen? ⟨w.heap.size + 1 + 1, o, none⟩ = false) := ⟨keep_cell hb3 (by first | (simp [go_sem]; done) | (simp [go_sem, KF2]; done) | (simp [go_sem, KF2, World.cell?_alloc_some]; done) | (simp [go_sem, KF2, frozen?_alloc_cells]; done)), keep_cell hb3 (by first | (simp [go_sem]; done) | (simp [go_sem, KF2]; done) | (simp [go_sem, KF2, World.cell?_alloc_some]; done) | (simp [go_sem, KF2, frozen?_alloc_cells]; done)), keep_cell hb3 (by first | (simp [go_sem]; done) | (simp [go_sem, KF2]; done) | (simp [go_sem, KF2, World.cell?_alloc_some]; done) | (simp [go_sem, KF2, frozen?_alloc_cells]; done)), keep_frozen2 hb3 (by first | (simp [go_sem]; done) | (simp [go_sem, KF2]; done) | (simp [go_sem, KF2, World.cell?_alloc_some]; done) | (simp [go_sem, KF2, frozen?_alloc_cells]; done)) (by first | (simp [go_sem]; done) | (simp [go_sem, KF2]; done) | (simp [go_sem, KF2, World.cell?_alloc_some]; done) | (simp [go_sem, KF2, frozen?_alloc_cells]; done)), keep_cell hb3 (by first | (simp [go_sem]; done) | (simp [go_sem, KF2]; done) | (simp [go_sem, KF2, World.cell?_alloc_some]; done) | (simp [go_sem, KF2, frozen?_alloc_cells]; done)), keep_cell hb3 (by first | (simp [go_sem]; done) | (simp [go_sem, KF2]; done) | (simp [go_sem, KF2, World.cell?_alloc_some]; done) | (simp [go_sem, KF2, frozen?_alloc_cells]; done)), keep_cell hb3 (by first | (simp [go_sem]; done) | (simp [go_sem, KF2]; done) | (simp [go_sem, KF2, World.cell?_alloc_some]; done) | (simp [go_sem, KF2, frozen?_alloc_cells]; done)), keep_frozen2 hb3 (by first | (simp [go_sem]; done) | (simp [go_sem, KF2]; done) | (simp [go_sem, KF2, World.cell?_alloc_some]; done) | (simp [go_sem, KF2, frozen?_alloc_cells]; done)) (by first | (simp [go_sem]; done) | (simp [go_sem, KF2]; done) | (simp [go_sem, KF2, World.cell?_alloc_some]; done) | (simp [go_sem, KF2, frozen?_alloc_cells]; done)), keep_some hb3 (by first | (simp [go_sem]; done) | (simp [go_sem, KF2]; done) | (simp [go_sem, KF2, World.cell?_alloc_some]; done) | (simp [go_sem, KF2, frozen?_alloc_cells]; done)), keep_some hb3 (by first | (simp [go_sem]; done) | (simp [go_sem, KF2]; done) | (simp [go_sem, KF2, World.cell?_alloc_some]; done) | (simp [go_sem, KF2, frozen?_alloc_cells]; done)), keep_some hb3 (by first | (simp [go_sem]; done) | (simp [go_sem, KF2]; done) | (simp [go_sem, KF2, World.cell?_alloc_some]; done) | (simp [go_sem, KF2, frozen?_alloc_cells]; done)), keep_frozen2 hb3 (by first | (simp [go_sem]; done) | (simp [go_sem, KF2]; done) | (simp [go_sem, KF2, World.cell?_alloc_some]; done) | (simp [go_sem, KF2, frozen?_alloc_cells]; done)) (by first | (simp [go_sem]; done) | (simp [go_sem, KF2]; done) | (simp [go_sem, KF2, World.cell?_alloc_some]; done) | (simp [go_sem, KF2, frozen?_alloc_cells]; done))⟩; have KF3z0 : w.heap.size < w3.heap.size := World.block_lt_of_cell? _ _ KF3.1; have KF3z1 : w.heap.size + 1 < w3.heap.size := World.block_lt_of_cell? _ _ KF3.2.2.2.2.1; have KF3z2 : w.heap.size + 1 + 1 < w3.heap.size := World.block_lt_of_cell? _ _ KF3.2.2.2.2.2.2.2.2.1
    clear hb3 KF2
    go_wp2_with fail
    refine bodyPost_ret (v := .tuple #[.agg #[.int .i64 W, .int .u64 (LO (N)), .int .u64 (HI (N))], .int .i64 0]) (by simp [results, Try.results42, go_sem, *]) rfl ?_
    exact ⟨rfl, by go_grown⟩

set_option maxHeartbeats 400000 in
theorem four_raw (x : Int) (w : World) :
    Calls Try.prog 64 #[.int .u64 x] w fun e w' => e = .returned (.agg #[.int .i64 4, .int .u64 x, .int .u64 0]) ∧ Below w.heap.size w w' := by
  go_enter Try.func64, Try.ntmps64
  go_wp2_with fail
  refine bodyPost_ret (v := .agg #[.int .i64 4, .int .u64 x, .int .u64 0]) (by simp [results, Try.results64, go_sem]) rfl ?_
  exact ⟨rfl, by go_grown⟩

theorem ex_udiv (w : World) : Calls Try.prog 63 #[.int .i64 21, .int .u64 7, .int .u64 0] w fun e w' => e = .returned (.int .u64 15) ∧ Below w.heap.size w w' := by
  have hv : udiv 4 7 0 = 15 := by decide +kernel
  have hl : LO 15 = 15 := by decide +kernel
  refine (lawtwo_of (a := 7) (b := 0) (c := 15) (by decide +kernel) (by decide +kernel) (by decide) (by decide) w (fun wx => ?_)).mono ?_
  · have h := two_udiv (Wd.mk' (W := 4) (n := 7) (by decide) (by decide) (by decide)) (Wd.mk' (W := 4) (n := 0) (by decide) (by decide) (by decide)) wx
    rw [hv] at h
    exact h
  · rintro e w' ⟨rfl, hb⟩
    exact ⟨by rw [hl], hb⟩

theorem ex_urem (w : World) : Calls Try.prog 63 #[.int .i64 22, .int .u64 7, .int .u64 0] w fun e w' => e = .returned (.int .u64 7) ∧ Below w.heap.size w w' := by
  have hv : urem 7 0 = 7 := by decide +kernel
  have hl : LO 7 = 7 := by decide +kernel
  refine (lawtwo_of (a := 7) (b := 0) (c := 7) (by decide +kernel) (by decide +kernel) (by decide) (by decide) w (fun wx => ?_)).mono ?_
  · have h := two_urem (Wd.mk' (W := 4) (n := 7) (by decide) (by decide) (by decide)) (Wd.mk' (W := 4) (n := 0) (by decide) (by decide) (by decide)) wx
    rw [hv] at h
    exact h
  · rintro e w' ⟨rfl, hb⟩
    exact ⟨by rw [hl], hb⟩

theorem ex_s1 (w : World) : Calls Try.prog 63 #[.int .i64 23, .int .u64 8, .int .u64 15] w fun e w' => e = .returned (.int .u64 8) ∧ Below w.heap.size w w' := by
  have hv : sdiv 4 8 15 = 8 := by decide +kernel
  have hl : LO 8 = 8 := by decide +kernel
  refine (lawtwo_of (a := 8) (b := 15) (c := 8) (by decide +kernel) (by decide +kernel) (by decide) (by decide) w (fun wx => ?_)).mono ?_
  · have h := two_signed (op := 23) (N := sdiv 4 8 15) (Or.inl ⟨rfl, rfl⟩) (Wd.mk' (W := 4) (n := 8) (by decide) (by decide) (by decide)) (Wd.mk' (W := 4) (n := 15) (by decide) (by decide) (by decide)) wx
    rw [hv] at h
    exact h
  · rintro e w' ⟨rfl, hb⟩
    exact ⟨by rw [hl], hb⟩

theorem ex_s2 (w : World) : Calls Try.prog 63 #[.int .i64 23, .int .u64 9, .int .u64 2] w fun e w' => e = .returned (.int .u64 13) ∧ Below w.heap.size w w' := by
  have hv : sdiv 4 9 2 = 13 := by decide +kernel
  have hl : LO 13 = 13 := by decide +kernel
  refine (lawtwo_of (a := 9) (b := 2) (c := 13) (by decide +kernel) (by decide +kernel) (by decide) (by decide) w (fun wx => ?_)).mono ?_
  · have h := two_signed (op := 23) (N := sdiv 4 9 2) (Or.inl ⟨rfl, rfl⟩) (Wd.mk' (W := 4) (n := 9) (by decide) (by decide) (by decide)) (Wd.mk' (W := 4) (n := 2) (by decide) (by decide) (by decide)) wx
    rw [hv] at h
    exact h
  · rintro e w' ⟨rfl, hb⟩
    exact ⟨by rw [hl], hb⟩

theorem ex_s3 (w : World) : Calls Try.prog 63 #[.int .i64 24, .int .u64 9, .int .u64 2] w fun e w' => e = .returned (.int .u64 15) ∧ Below w.heap.size w w' := by
  have hv : srem 4 9 2 = 15 := by decide +kernel
  have hl : LO 15 = 15 := by decide +kernel
  refine (lawtwo_of (a := 9) (b := 2) (c := 15) (by decide +kernel) (by decide +kernel) (by decide) (by decide) w (fun wx => ?_)).mono ?_
  · have h := two_signed (op := 24) (N := srem 4 9 2) (Or.inr (Or.inl ⟨rfl, rfl⟩)) (Wd.mk' (W := 4) (n := 9) (by decide) (by decide) (by decide)) (Wd.mk' (W := 4) (n := 2) (by decide) (by decide) (by decide)) wx
    rw [hv] at h
    exact h
  · rintro e w' ⟨rfl, hb⟩
    exact ⟨by rw [hl], hb⟩

theorem ex_s4 (w : World) : Calls Try.prog 63 #[.int .i64 25, .int .u64 9, .int .u64 2] w fun e w' => e = .returned (.int .u64 1) ∧ Below w.heap.size w w' := by
  have hv : smod 4 9 2 = 1 := by decide +kernel
  have hl : LO 1 = 1 := by decide +kernel
  refine (lawtwo_of (a := 9) (b := 2) (c := 1) (by decide +kernel) (by decide +kernel) (by decide) (by decide) w (fun wx => ?_)).mono ?_
  · have h := two_signed (op := 25) (N := smod 4 9 2) (Or.inr (Or.inr ⟨rfl, rfl⟩)) (Wd.mk' (W := 4) (n := 9) (by decide) (by decide) (by decide)) (Wd.mk' (W := 4) (n := 2) (by decide) (by decide) (by decide)) wx
    rw [hv] at h
    exact h
  · rintro e w' ⟨rfl, hb⟩
    exact ⟨by rw [hl], hb⟩

theorem ex_s5 (w : World) : Calls Try.prog 63 #[.int .i64 25, .int .u64 7, .int .u64 14] w fun e w' => e = .returned (.int .u64 15) ∧ Below w.heap.size w w' := by
  have hv : smod 4 7 14 = 15 := by decide +kernel
  have hl : LO 15 = 15 := by decide +kernel
  refine (lawtwo_of (a := 7) (b := 14) (c := 15) (by decide +kernel) (by decide +kernel) (by decide) (by decide) w (fun wx => ?_)).mono ?_
  · have h := two_signed (op := 25) (N := smod 4 7 14) (Or.inr (Or.inr ⟨rfl, rfl⟩)) (Wd.mk' (W := 4) (n := 7) (by decide) (by decide) (by decide)) (Wd.mk' (W := 4) (n := 14) (by decide) (by decide) (by decide)) wx
    rw [hv] at h
    exact h
  · rintro e w' ⟨rfl, hb⟩
    exact ⟨by rw [hl], hb⟩

theorem ex_s6 (w : World) : Calls Try.prog 63 #[.int .i64 23, .int .u64 7, .int .u64 0] w fun e w' => e = .returned (.int .u64 15) ∧ Below w.heap.size w w' := by
  have hv : sdiv 4 7 0 = 15 := by decide +kernel
  have hl : LO 15 = 15 := by decide +kernel
  refine (lawtwo_of (a := 7) (b := 0) (c := 15) (by decide +kernel) (by decide +kernel) (by decide) (by decide) w (fun wx => ?_)).mono ?_
  · have h := two_signed (op := 23) (N := sdiv 4 7 0) (Or.inl ⟨rfl, rfl⟩) (Wd.mk' (W := 4) (n := 7) (by decide) (by decide) (by decide)) (Wd.mk' (W := 4) (n := 0) (by decide) (by decide) (by decide)) wx
    rw [hv] at h
    exact h
  · rintro e w' ⟨rfl, hb⟩
    exact ⟨by rw [hl], hb⟩

theorem ex_s7 (w : World) : Calls Try.prog 63 #[.int .i64 23, .int .u64 9, .int .u64 0] w fun e w' => e = .returned (.int .u64 1) ∧ Below w.heap.size w w' := by
  have hv : sdiv 4 9 0 = 1 := by decide +kernel
  have hl : LO 1 = 1 := by decide +kernel
  refine (lawtwo_of (a := 9) (b := 0) (c := 1) (by decide +kernel) (by decide +kernel) (by decide) (by decide) w (fun wx => ?_)).mono ?_
  · have h := two_signed (op := 23) (N := sdiv 4 9 0) (Or.inl ⟨rfl, rfl⟩) (Wd.mk' (W := 4) (n := 9) (by decide) (by decide) (by decide)) (Wd.mk' (W := 4) (n := 0) (by decide) (by decide) (by decide)) wx
    rw [hv] at h
    exact h
  · rintro e w' ⟨rfl, hb⟩
    exact ⟨by rw [hl], hb⟩

theorem ex_ashr (w : World) : Calls Try.prog 63 #[.int .i64 28, .int .u64 8, .int .u64 9] w fun e w' => e = .returned (.int .u64 15) ∧ Below w.heap.size w w' := by
  have hv : 2 ^ 4 - 1 - (2 ^ 4 - 1 - 8) / 2 ^ dist 9 4 = 15 := by decide +kernel
  have hl : LO 15 = 15 := by decide +kernel
  refine (lawtwo_of (a := 8) (b := 9) (c := 15) (by decide +kernel) (by decide +kernel) (by decide) (by decide) w (fun wx => ?_)).mono ?_
  · have h := two_ashr1 (Wd.mk' (W := 4) (n := 8) (by decide) (by decide) (by decide)) (Wd.mk' (W := 4) (n := 9) (by decide) (by decide) (by decide)) (by decide) wx
    rw [hv] at h
    exact h
  · rintro e w' ⟨rfl, hb⟩
    exact ⟨by rw [hl], hb⟩

theorem ex_mul (w : World) : Calls Try.prog 63 #[.int .i64 20, .int .u64 5, .int .u64 5] w fun e w' => e = .returned (.int .u64 9) ∧ Below w.heap.size w w' := by
  have hv : 5 * 5 % 2 ^ 4 = 9 := by decide +kernel
  have hl : LO 9 = 9 := by decide +kernel
  refine (lawtwo_of (a := 5) (b := 5) (c := 9) (by decide +kernel) (by decide +kernel) (by decide) (by decide) w (fun wx => ?_)).mono ?_
  · have h := two_mul (Wd.mk' (W := 4) (n := 5) (by decide) (by decide) (by decide)) (Wd.mk' (W := 4) (n := 5) (by decide) (by decide) (by decide)) wx
    rw [hv] at h
    exact h
  · rintro e w' ⟨rfl, hb⟩
    exact ⟨by rw [hl], hb⟩

theorem ex_rot (w : World) : Calls Try.prog 25 #[.agg #[.int .i64 4, .int .u64 12, .int .u64 0], .int .i64 1, .bool true] w fun e w' => e = .returned (.tuple #[.agg #[.int .i64 4, .int .u64 9, .int .u64 0], .int .i64 0]) ∧ Below w.heap.size w w' := by
  have h := rotate_left (W := 4) (n := 12) (k := 1) (WW := 4) (lo := 12) (hi := 0) (kk := 1) ⟨by decide, by decide, by decide, by decide, by decide, by decide⟩ rfl (by decide) w
  have v0 : ((4 : Nat) : Int) = 4 := by decide +kernel
  have v1 : LO (rot 4 12 (1 % 4)) = 9 := by decide +kernel
  have v2 : HI (rot 4 12 (1 % 4)) = 0 := by decide +kernel
  simp only [v0, v1, v2] at h
  exact h

theorem ex_cat (w : World) : Calls Try.prog 19 #[.agg #[.int .i64 1, .int .u64 1, .int .u64 0], .agg #[.int .i64 1, .int .u64 0, .int .u64 0]] w fun e w' => e = .returned (.tuple #[.agg #[.int .i64 2, .int .u64 2, .int .u64 0], .int .i64 0]) ∧ Below w.heap.size w w' := by
  have h := concat_any (W := 1) (n := 1) (V := 1) (m := 0) (WW := 1) (lo := 1) (hi := 0) (WW' := 1) (lo' := 0) (hi' := 0) ⟨by decide, by decide, by decide, by decide, by decide, by decide⟩ ⟨by decide, by decide, by decide, by decide, by decide, by decide⟩ (by decide) w
  have v0 : ((1 : Nat) : Int) + ((1 : Nat) : Int) = 2 := by decide +kernel
  have v1 : LO (cat 1 1 0) = 2 := by decide +kernel
  have v2 : HI (cat 1 1 0) = 0 := by decide +kernel
  simp only [v0, v1, v2] at h
  exact h

theorem ex_xtr (w : World) : Calls Try.prog 21 #[.agg #[.int .i64 4, .int .u64 12, .int .u64 0], .int .i64 3, .int .i64 2] w fun e w' => e = .returned (.tuple #[.agg #[.int .i64 2, .int .u64 3, .int .u64 0], .int .i64 0]) ∧ Below w.heap.size w w' := by
  have h := extract_any (W := 4) (n := 12) (i := 3) (j := 2) (WW := 4) (lo := 12) (hi := 0) (ii := 3) (jj := 2) ⟨by decide, by decide, by decide, by decide, by decide, by decide⟩ rfl rfl (by decide) (by decide) w
  have v0 : ((3 : Nat) : Int) - ((2 : Nat) : Int) + 1 = 2 := by decide +kernel
  have v1 : LO (12 / 2 ^ 2 % 2 ^ (3 - 2 + 1)) = 3 := by decide +kernel
  have v2 : HI (12 / 2 ^ 2 % 2 ^ (3 - 2 + 1)) = 0 := by decide +kernel
  simp only [v0, v1, v2] at h
  exact h

theorem ex_ext (w : World) : Calls Try.prog 23 #[.agg #[.int .i64 4, .int .u64 8, .int .u64 0], .int .i64 2, .bool true] w fun e w' => e = .returned (.tuple #[.agg #[.int .i64 6, .int .u64 56, .int .u64 0], .int .i64 0]) ∧ Below w.heap.size w w' := by
  have h := extend_sign (W := 4) (n := 8) (k := 2) (WW := 4) (lo := 8) (hi := 0) (kk := 2) ⟨by decide, by decide, by decide, by decide, by decide, by decide⟩ rfl (by decide) (by decide) w
  have v0 : ((4 : Nat) : Int) + ((2 : Nat) : Int) = 6 := by decide +kernel
  have v1 : LO (wide 4 8 2) = 56 := by decide +kernel
  have v2 : HI (wide 4 8 2) = 0 := by decide +kernel
  simp only [v0, v1, v2] at h
  exact h

theorem ex_neg (w : World) : Calls Try.prog 44 #[.int .i64 11, .agg #[.int .i64 4, .int .u64 1, .int .u64 0]] w fun e w' => e = .returned (.tuple #[.agg #[.int .i64 4, .int .u64 15, .int .u64 0], .int .i64 0]) ∧ Below w.heap.size w w' := by
  have h := one_neg (W := 4) (n := 1) (WW := 4) (lo := 1) (hi := 0) ⟨by decide, by decide, by decide, by decide, by decide, by decide⟩ w
  have v0 : ((4 : Nat) : Int) = 4 := by decide +kernel
  have v1 : LO (neg 4 1) = 15 := by decide +kernel
  have v2 : HI (neg 4 1) = 0 := by decide +kernel
  simp only [v0, v1, v2] at h
  exact h

theorem ex_rep (w : World) : Calls Try.prog 27 #[.agg #[.int .i64 2, .int .u64 2, .int .u64 0], .int .i64 2] w fun e w' => e = .returned (.tuple #[.agg #[.int .i64 4, .int .u64 10, .int .u64 0], .int .i64 0]) ∧ Below w.heap.size w w' := by
  have h := repeat_any (W := 2) (n := 2) (k := 2) (WW := 2) (lo := 2) (hi := 0) (kk := 2) ⟨by decide, by decide, by decide, by decide, by decide, by decide⟩ rfl (by decide) (by decide) w
  have v0 : ((wk 2 2 : Nat) : Int) = 4 := by decide +kernel
  have v1 : LO (rep 2 2 2) = 10 := by decide +kernel
  have v2 : HI (rep 2 2 2) = 0 := by decide +kernel
  simp only [v0, v1, v2] at h
  exact h
end Go.Proofs.Ytjcmnhipiejnpaa
