/- The walk of LiftValues. -/
import Derived.Test.YtedldoobmmhloaaLF4
import Derived.BigQuiet
import Derived.Test.YtedldoobmmhloaaLin2
namespace Go.Proofs.Ytedldoobmmhloaa
open Go.RowKit
set_option linter.unusedSimpArgs false
set_option linter.unusedVariables false

theorem eq_own (K l h : Int) (w : World) : (binOp .eql 25 (.agg #[.int .i64 K, .int .u64 l, .int .u64 h]) (.agg #[.int .i64 K, .int .u64 l, .int .u64 h])).run Try.prog w = .ok (.bool true) w := by
  simp [go_sem]
theorem neq_own (K l h : Int) (w : World) : (binOp .neq 25 (.agg #[.int .i64 K, .int .u64 l, .int .u64 h]) (.agg #[.int .i64 K, .int .u64 l, .int .u64 h])).run Try.prog w = .ok (.bool false) w := by
  simp [go_sem]

set_option maxRecDepth 100000 in
set_option maxHeartbeats 1200000 in
theorem walk_no1_f {A lo hi s : Int} {l : List Bool} {a : Option Addr} {n c : Nat} (hv : ((n : Int) != bos s) = true) (hs : srt s = false) (HB : Hid (∀ wx, Calls Try.prog 11 #[.agg #[.int .i64 A, .int .u64 lo, .int .u64 hi]] wx fun e w' => e = .returned (.slice none 0 0) ∧ Below wx.heap.size wx w')) (HR : Hid (∀ wx, Calls Try.prog 12 #[.agg #[.int .i64 A, .int .u64 lo, .int .u64 hi]] wx fun e w' => e = .returned (.bool false) ∧ Below wx.heap.size wx w')) (w : World) (hl : Br w a l) (hn : n = l.length) (hm : n ≤ 200) :
    Calls Try.prog 3 #[.int .i64 s, .slice a n c, .agg #[.int .i64 A, .int .u64 lo, .int .u64 hi]] w fun e w' => e = .returned (.bool true) ∧ Below w.heap.size w w' := by
  have hm9 : ¬ 200 < (n : Int) := by omega
  have HL : Hid (Br w a l) := hl
  have HN : Hid (n = l.length) := hn
  have HIS : Hid (∀ wx, Calls Try.prog 7 #[.int .i64 s] wx fun e w' => e = .returned (.bool false) ∧ Below wx.heap.size wx w') := fun wx => (refIs_any s wx).mono fun e w' h => ⟨by rw [← hs]; exact h.1, h.2 ▸ Below.refl _ _⟩
  have hm10 : n ≤ 1000 := by omega
  clear hl hn hs
  go_enter Try.func3, Try.ntmps3
  go_wp2_with fail
  refine (known_any _).mono ?_
  rintro e w1 ⟨rfl, hb1⟩
  have hb1' := below_step (w := w) (by go_grown) hb1
  have hs1 := hb1'.size
  have KF1 : w1.cell? ⟨w.heap.size, 0, none⟩ = some (.int .i64 A) ∧ w1.cell? ⟨w.heap.size, 1, none⟩ = some (.int .u64 lo) ∧ w1.cell? ⟨w.heap.size, 2, none⟩ = some (.int .u64 hi) ∧ (∀ o, w1.frozen? ⟨w.heap.size, o, none⟩ = false) := ⟨keep_cell hb1 (by first | (simp [go_sem]; done)), keep_cell hb1 (by first | (simp [go_sem]; done)), keep_cell hb1 (by first | (simp [go_sem]; done)), keep_frozen2 hb1 (by first | (simp [go_sem]; done)) (by first | (simp [go_sem]; done))⟩; have KF1z0 : w.heap.size < w1.heap.size := World.block_lt_of_cell? _ _ KF1.1
  clear hb1
  go_wp2_with (at_builtin; refine wpList_app_br rfl _ _ rfl rfl a l c n rfl HN.out (HL.out.below hb1') (by have := HN.out; omega) ?_; intro b d wa hbr hba)
  have KFa : wa.cell? ⟨w.heap.size, 0, none⟩ = some (.int .i64 A) ∧ wa.cell? ⟨w.heap.size, 1, none⟩ = some (.int .u64 lo) ∧ wa.cell? ⟨w.heap.size, 2, none⟩ = some (.int .u64 hi) ∧ (∀ o, wa.frozen? ⟨w.heap.size, o, none⟩ = false) := ⟨(hba.cell (p := ⟨w.heap.size, 0, none⟩) KF1z0).trans KF1.1, (hba.cell (p := ⟨w.heap.size, 1, none⟩) KF1z0).trans KF1.2.1, (hba.cell (p := ⟨w.heap.size, 2, none⟩) KF1z0).trans KF1.2.2.1, fun o => (hba.frozen (p := ⟨w.heap.size, o, none⟩) KF1z0).trans (KF1.2.2.2 o)⟩
  have hba' : Below w.heap.size w wa := hb1'.trans (hba.mono hs1)
  have hsa := hba'.size
  have KFaz0 : w.heap.size < wa.heap.size := Nat.lt_of_lt_of_le KF1z0 hba.size
  have HBR : Hid (Br wa b l) := hbr
  clear KF1 hba hbr
  go_wp2_with fail
  refine (value_no hv _).mono ?_
  rintro e w2 ⟨rfl, hb2⟩
  have hb2' := below_step (w := w) (by go_grown) hb2
  have hs2 := hb2'.size
  have hx2 : Below wa.heap.size wa w2 := hb2
  have KF2 : w2.cell? ⟨w.heap.size, 0, none⟩ = some (.int .i64 A) ∧ w2.cell? ⟨w.heap.size, 1, none⟩ = some (.int .u64 lo) ∧ w2.cell? ⟨w.heap.size, 2, none⟩ = some (.int .u64 hi) ∧ (∀ o, w2.frozen? ⟨w.heap.size, o, none⟩ = false) := ⟨keep_cell hb2 (by first | (simp [go_sem]; done) | (simp [go_sem, KFa]; done) | (simp [go_sem, KFa, World.cell?_alloc_some]; done) | (simp [go_sem, KFa, frozen?_alloc_cells]; done)), keep_cell hb2 (by first | (simp [go_sem]; done) | (simp [go_sem, KFa]; done) | (simp [go_sem, KFa, World.cell?_alloc_some]; done) | (simp [go_sem, KFa, frozen?_alloc_cells]; done)), keep_cell hb2 (by first | (simp [go_sem]; done) | (simp [go_sem, KFa]; done) | (simp [go_sem, KFa, World.cell?_alloc_some]; done) | (simp [go_sem, KFa, frozen?_alloc_cells]; done)), keep_frozen2 hb2 (by first | (simp [go_sem]; done) | (simp [go_sem, KFa]; done) | (simp [go_sem, KFa, World.cell?_alloc_some]; done) | (simp [go_sem, KFa, frozen?_alloc_cells]; done)) (by first | (simp [go_sem]; done) | (simp [go_sem, KFa]; done) | (simp [go_sem, KFa, World.cell?_alloc_some]; done) | (simp [go_sem, KFa, frozen?_alloc_cells]; done))⟩; have KF2z0 : w.heap.size < w2.heap.size := World.block_lt_of_cell? _ _ KF2.1
  clear hb2 KFa
  go_wp2_with fail
  refine (HIS.out _).mono ?_
  rintro e w3 ⟨rfl, hb3⟩
  have hb3' := below_step (w := w) (by go_grown) hb3
  have hs3 := hb3'.size
  have hx3 : Below wa.heap.size wa w3 := (hx2.alloc hx2.size _).trans (hb3.mono (by have := hx2.size; simp; omega))
  have KF3 : w3.cell? ⟨w.heap.size, 0, none⟩ = some (.int .i64 A) ∧ w3.cell? ⟨w.heap.size, 1, none⟩ = some (.int .u64 lo) ∧ w3.cell? ⟨w.heap.size, 2, none⟩ = some (.int .u64 hi) ∧ (∀ o, w3.frozen? ⟨w.heap.size, o, none⟩ = false) ∧ w3.cell? ⟨w2.heap.size, 0, none⟩ = some (.int .i64 0) ∧ w3.cell? ⟨w2.heap.size, 1, none⟩ = some (.int .u64 0) ∧ w3.cell? ⟨w2.heap.size, 2, none⟩ = some (.int .u64 0) ∧ (∀ o, w3.frozen? ⟨w2.heap.size, o, none⟩ = false) := ⟨keep_cell hb3 (by first | (simp [go_sem]; done) | (simp [go_sem, KF2]; done) | (simp [go_sem, KF2, World.cell?_alloc_some]; done) | (simp [go_sem, KF2, frozen?_alloc_cells]; done)), keep_cell hb3 (by first | (simp [go_sem]; done) | (simp [go_sem, KF2]; done) | (simp [go_sem, KF2, World.cell?_alloc_some]; done) | (simp [go_sem, KF2, frozen?_alloc_cells]; done)), keep_cell hb3 (by first | (simp [go_sem]; done) | (simp [go_sem, KF2]; done) | (simp [go_sem, KF2, World.cell?_alloc_some]; done) | (simp [go_sem, KF2, frozen?_alloc_cells]; done)), keep_frozen2 hb3 (by first | (simp [go_sem]; done) | (simp [go_sem, KF2]; done) | (simp [go_sem, KF2, World.cell?_alloc_some]; done) | (simp [go_sem, KF2, frozen?_alloc_cells]; done)) (by first | (simp [go_sem]; done) | (simp [go_sem, KF2]; done) | (simp [go_sem, KF2, World.cell?_alloc_some]; done) | (simp [go_sem, KF2, frozen?_alloc_cells]; done)), keep_cell hb3 (by first | (simp [go_sem]; done) | (simp [go_sem, KF2]; done) | (simp [go_sem, KF2, World.cell?_alloc_some]; done) | (simp [go_sem, KF2, frozen?_alloc_cells]; done)), keep_cell hb3 (by first | (simp [go_sem]; done) | (simp [go_sem, KF2]; done) | (simp [go_sem, KF2, World.cell?_alloc_some]; done) | (simp [go_sem, KF2, frozen?_alloc_cells]; done)), keep_cell hb3 (by first | (simp [go_sem]; done) | (simp [go_sem, KF2]; done) | (simp [go_sem, KF2, World.cell?_alloc_some]; done) | (simp [go_sem, KF2, frozen?_alloc_cells]; done)), keep_frozen2 hb3 (by first | (simp [go_sem]; done) | (simp [go_sem, KF2]; done) | (simp [go_sem, KF2, World.cell?_alloc_some]; done) | (simp [go_sem, KF2, frozen?_alloc_cells]; done)) (by first | (simp [go_sem]; done) | (simp [go_sem, KF2]; done) | (simp [go_sem, KF2, World.cell?_alloc_some]; done) | (simp [go_sem, KF2, frozen?_alloc_cells]; done))⟩; have KF3z0 : w.heap.size < w3.heap.size := World.block_lt_of_cell? _ _ KF3.1; have KF3z1 : w2.heap.size < w3.heap.size := World.block_lt_of_cell? _ _ KF3.2.2.2.2.1
  clear hb3 KF2
  go_wp2_with fail
  refine (bools_same (HBR.out.below hx3) (HL.out.below hb3') HN.out hm10).mono ?_
  rintro e w4 ⟨rfl, hb4⟩
  have hb4' := below_step (w := w) (by go_grown) hb4
  have hs4 := hb4'.size
  have KF4 : w4.cell? ⟨w.heap.size, 0, none⟩ = some (.int .i64 A) ∧ w4.cell? ⟨w.heap.size, 1, none⟩ = some (.int .u64 lo) ∧ w4.cell? ⟨w.heap.size, 2, none⟩ = some (.int .u64 hi) ∧ (∀ o, w4.frozen? ⟨w.heap.size, o, none⟩ = false) ∧ w4.cell? ⟨w2.heap.size, 0, none⟩ = some (.int .i64 0) ∧ w4.cell? ⟨w2.heap.size, 1, none⟩ = some (.int .u64 0) ∧ w4.cell? ⟨w2.heap.size, 2, none⟩ = some (.int .u64 0) ∧ (∀ o, w4.frozen? ⟨w2.heap.size, o, none⟩ = false) := ⟨keep_cell hb4 (by first | (simp [go_sem]; done) | (simp [go_sem, KF3]; done) | (simp [go_sem, KF3, World.cell?_alloc_some]; done) | (simp [go_sem, KF3, frozen?_alloc_cells]; done)), keep_cell hb4 (by first | (simp [go_sem]; done) | (simp [go_sem, KF3]; done) | (simp [go_sem, KF3, World.cell?_alloc_some]; done) | (simp [go_sem, KF3, frozen?_alloc_cells]; done)), keep_cell hb4 (by first | (simp [go_sem]; done) | (simp [go_sem, KF3]; done) | (simp [go_sem, KF3, World.cell?_alloc_some]; done) | (simp [go_sem, KF3, frozen?_alloc_cells]; done)), keep_frozen2 hb4 (by first | (simp [go_sem]; done) | (simp [go_sem, KF3]; done) | (simp [go_sem, KF3, World.cell?_alloc_some]; done) | (simp [go_sem, KF3, frozen?_alloc_cells]; done)) (by first | (simp [go_sem]; done) | (simp [go_sem, KF3]; done) | (simp [go_sem, KF3, World.cell?_alloc_some]; done) | (simp [go_sem, KF3, frozen?_alloc_cells]; done)), keep_cell hb4 (by first | (simp [go_sem]; done) | (simp [go_sem, KF3]; done) | (simp [go_sem, KF3, World.cell?_alloc_some]; done) | (simp [go_sem, KF3, frozen?_alloc_cells]; done)), keep_cell hb4 (by first | (simp [go_sem]; done) | (simp [go_sem, KF3]; done) | (simp [go_sem, KF3, World.cell?_alloc_some]; done) | (simp [go_sem, KF3, frozen?_alloc_cells]; done)), keep_cell hb4 (by first | (simp [go_sem]; done) | (simp [go_sem, KF3]; done) | (simp [go_sem, KF3, World.cell?_alloc_some]; done) | (simp [go_sem, KF3, frozen?_alloc_cells]; done)), keep_frozen2 hb4 (by first | (simp [go_sem]; done) | (simp [go_sem, KF3]; done) | (simp [go_sem, KF3, World.cell?_alloc_some]; done) | (simp [go_sem, KF3, frozen?_alloc_cells]; done)) (by first | (simp [go_sem]; done) | (simp [go_sem, KF3]; done) | (simp [go_sem, KF3, World.cell?_alloc_some]; done) | (simp [go_sem, KF3, frozen?_alloc_cells]; done))⟩; have KF4z0 : w.heap.size < w4.heap.size := World.block_lt_of_cell? _ _ KF4.1; have KF4z1 : w2.heap.size < w4.heap.size := World.block_lt_of_cell? _ _ KF4.2.2.2.2.1
  clear hb4 KF3
  clear hx2 hx3
  go_wp2_with fail
  go_quiet (fail)
  have hbq : Below w.heap.size w (w4.drewN nq) := ⟨hb4'.os, hb4'.tape, hb4'.output, hb4'.size, hb4'.block⟩
  go_wp2_with fail
  refine (HB.out _).mono ?_
  rintro e w5 ⟨rfl, hb5⟩
  have hb5' := below_step (w := w) (by go_grown) hb5
  have hs5 := hb5'.size
  have KF5 : w5.cell? ⟨w.heap.size, 0, none⟩ = some (.int .i64 A) ∧ w5.cell? ⟨w.heap.size, 1, none⟩ = some (.int .u64 lo) ∧ w5.cell? ⟨w.heap.size, 2, none⟩ = some (.int .u64 hi) ∧ (∀ o, w5.frozen? ⟨w.heap.size, o, none⟩ = false) ∧ w5.cell? ⟨w2.heap.size, 0, none⟩ = some (.int .i64 0) ∧ w5.cell? ⟨w2.heap.size, 1, none⟩ = some (.int .u64 0) ∧ w5.cell? ⟨w2.heap.size, 2, none⟩ = some (.int .u64 0) ∧ (∀ o, w5.frozen? ⟨w2.heap.size, o, none⟩ = false) := ⟨keep_cell hb5 (by first | (simp [go_sem]; done) | (simp [go_sem, KF4]; done) | (simp [go_sem, KF4, World.cell?_alloc_some]; done) | (simp [go_sem, KF4, frozen?_alloc_cells]; done)), keep_cell hb5 (by first | (simp [go_sem]; done) | (simp [go_sem, KF4]; done) | (simp [go_sem, KF4, World.cell?_alloc_some]; done) | (simp [go_sem, KF4, frozen?_alloc_cells]; done)), keep_cell hb5 (by first | (simp [go_sem]; done) | (simp [go_sem, KF4]; done) | (simp [go_sem, KF4, World.cell?_alloc_some]; done) | (simp [go_sem, KF4, frozen?_alloc_cells]; done)), keep_frozen2 hb5 (by first | (simp [go_sem]; done) | (simp [go_sem, KF4]; done) | (simp [go_sem, KF4, World.cell?_alloc_some]; done) | (simp [go_sem, KF4, frozen?_alloc_cells]; done)) (by first | (simp [go_sem]; done) | (simp [go_sem, KF4]; done) | (simp [go_sem, KF4, World.cell?_alloc_some]; done) | (simp [go_sem, KF4, frozen?_alloc_cells]; done)), keep_cell hb5 (by first | (simp [go_sem]; done) | (simp [go_sem, KF4]; done) | (simp [go_sem, KF4, World.cell?_alloc_some]; done) | (simp [go_sem, KF4, frozen?_alloc_cells]; done)), keep_cell hb5 (by first | (simp [go_sem]; done) | (simp [go_sem, KF4]; done) | (simp [go_sem, KF4, World.cell?_alloc_some]; done) | (simp [go_sem, KF4, frozen?_alloc_cells]; done)), keep_cell hb5 (by first | (simp [go_sem]; done) | (simp [go_sem, KF4]; done) | (simp [go_sem, KF4, World.cell?_alloc_some]; done) | (simp [go_sem, KF4, frozen?_alloc_cells]; done)), keep_frozen2 hb5 (by first | (simp [go_sem]; done) | (simp [go_sem, KF4]; done) | (simp [go_sem, KF4, World.cell?_alloc_some]; done) | (simp [go_sem, KF4, frozen?_alloc_cells]; done)) (by first | (simp [go_sem]; done) | (simp [go_sem, KF4]; done) | (simp [go_sem, KF4, World.cell?_alloc_some]; done) | (simp [go_sem, KF4, frozen?_alloc_cells]; done))⟩; have KF5z0 : w.heap.size < w5.heap.size := World.block_lt_of_cell? _ _ KF5.1; have KF5z1 : w2.heap.size < w5.heap.size := World.block_lt_of_cell? _ _ KF5.2.2.2.2.1
  clear hb5 KF4
  go_wp2_with fail
  refine (HR.out _).mono ?_
  rintro e w6 ⟨rfl, hb6⟩
  have hb6' := below_step (w := w) (by go_grown) hb6
  have hs6 := hb6'.size
  have KF6 : w6.cell? ⟨w.heap.size, 0, none⟩ = some (.int .i64 A) ∧ w6.cell? ⟨w.heap.size, 1, none⟩ = some (.int .u64 lo) ∧ w6.cell? ⟨w.heap.size, 2, none⟩ = some (.int .u64 hi) ∧ (∀ o, w6.frozen? ⟨w.heap.size, o, none⟩ = false) ∧ w6.cell? ⟨w2.heap.size, 0, none⟩ = some (.int .i64 0) ∧ w6.cell? ⟨w2.heap.size, 1, none⟩ = some (.int .u64 0) ∧ w6.cell? ⟨w2.heap.size, 2, none⟩ = some (.int .u64 0) ∧ (∀ o, w6.frozen? ⟨w2.heap.size, o, none⟩ = false) := ⟨keep_cell hb6 (by first | (simp [go_sem]; done) | (simp [go_sem, KF5]; done) | (simp [go_sem, KF5, World.cell?_alloc_some]; done) | (simp [go_sem, KF5, frozen?_alloc_cells]; done)), keep_cell hb6 (by first | (simp [go_sem]; done) | (simp [go_sem, KF5]; done) | (simp [go_sem, KF5, World.cell?_alloc_some]; done) | (simp [go_sem, KF5, frozen?_alloc_cells]; done)), keep_cell hb6 (by first | (simp [go_sem]; done) | (simp [go_sem, KF5]; done) | (simp [go_sem, KF5, World.cell?_alloc_some]; done) | (simp [go_sem, KF5, frozen?_alloc_cells]; done)), keep_frozen2 hb6 (by first | (simp [go_sem]; done) | (simp [go_sem, KF5]; done) | (simp [go_sem, KF5, World.cell?_alloc_some]; done) | (simp [go_sem, KF5, frozen?_alloc_cells]; done)) (by first | (simp [go_sem]; done) | (simp [go_sem, KF5]; done) | (simp [go_sem, KF5, World.cell?_alloc_some]; done) | (simp [go_sem, KF5, frozen?_alloc_cells]; done)), keep_cell hb6 (by first | (simp [go_sem]; done) | (simp [go_sem, KF5]; done) | (simp [go_sem, KF5, World.cell?_alloc_some]; done) | (simp [go_sem, KF5, frozen?_alloc_cells]; done)), keep_cell hb6 (by first | (simp [go_sem]; done) | (simp [go_sem, KF5]; done) | (simp [go_sem, KF5, World.cell?_alloc_some]; done) | (simp [go_sem, KF5, frozen?_alloc_cells]; done)), keep_cell hb6 (by first | (simp [go_sem]; done) | (simp [go_sem, KF5]; done) | (simp [go_sem, KF5, World.cell?_alloc_some]; done) | (simp [go_sem, KF5, frozen?_alloc_cells]; done)), keep_frozen2 hb6 (by first | (simp [go_sem]; done) | (simp [go_sem, KF5]; done) | (simp [go_sem, KF5, World.cell?_alloc_some]; done) | (simp [go_sem, KF5, frozen?_alloc_cells]; done)) (by first | (simp [go_sem]; done) | (simp [go_sem, KF5]; done) | (simp [go_sem, KF5, World.cell?_alloc_some]; done) | (simp [go_sem, KF5, frozen?_alloc_cells]; done))⟩; have KF6z0 : w.heap.size < w6.heap.size := World.block_lt_of_cell? _ _ KF6.1; have KF6z1 : w2.heap.size < w6.heap.size := World.block_lt_of_cell? _ _ KF6.2.2.2.2.1
  clear hb6 KF5
  go_wp2_with fail
  go_ret
  exact ⟨rfl, by go_grown⟩

set_option maxRecDepth 100000 in
set_option maxHeartbeats 1200000 in
theorem walk_no1_t {t N m : Nat} {s : Int} {l : List Bool} {a : Option Addr} {n c : Nat} (hv : ((n : Int) != bos s) = true) (hs : srt s = false) (hmt : (m : Int) = max (t : Int) 1) (HB : Hid (∀ wx, Calls Try.prog 11 #[.agg #[.int .i64 t, .int .u64 (LO (N)), .int .u64 (HI (N))]] wx fun e w' => ∃ g, e = .returned (.slice (some ⟨g, 0, none⟩) m m) ∧ Bs w' wx.heap.size (.slice (some ⟨g, 0, none⟩) m m) (bl m N) ∧ Below wx.heap.size wx w')) (HR : Hid (∀ wx, Calls Try.prog 12 #[.agg #[.int .i64 t, .int .u64 (LO (N)), .int .u64 (HI (N))]] wx fun e w' => e = .returned (.bool true) ∧ Below wx.heap.size wx w')) (HV : Hid (∀ g wx, (∀ j, j < m → wx.cell? ⟨g, 0 + j, none⟩ = some (.bool (N.testBit j))) → g < wx.heap.size → Calls Try.prog 6 #[.int .i64 (t : Int), .slice (some ⟨g, 0, none⟩) m m] wx fun e w' => e = .returned (.tuple #[.agg #[.int .i64 t, .int .u64 (LO (N)), .int .u64 (HI (N))], .int .i64 0]) ∧ Below wx.heap.size wx w')) (w : World) (hl : Br w a l) (hn : n = l.length) (hm : n ≤ 200) :
    Calls Try.prog 3 #[.int .i64 s, .slice a n c, .agg #[.int .i64 (t : Int), .int .u64 (LO N), .int .u64 (HI N)]] w fun e w' => e = .returned (.bool true) ∧ Below w.heap.size w w' := by
  have hqe := eq_own
  have hm9 : ¬ 200 < (n : Int) := by omega
  have HL : Hid (Br w a l) := hl
  have HN : Hid (n = l.length) := hn
  have HIS : Hid (∀ wx, Calls Try.prog 7 #[.int .i64 s] wx fun e w' => e = .returned (.bool false) ∧ Below wx.heap.size wx w') := fun wx => (refIs_any s wx).mono fun e w' h => ⟨by rw [← hs]; exact h.1, h.2 ▸ Below.refl _ _⟩
  have hm10 : n ≤ 1000 := by omega
  clear hl hn hs
  go_enter Try.func3, Try.ntmps3
  go_wp2_with fail
  refine (known_any _).mono ?_
  rintro e w1 ⟨rfl, hb1⟩
  have hb1' := below_step (w := w) (by go_grown) hb1
  have hs1 := hb1'.size
  have KF1 : w1.cell? ⟨w.heap.size, 0, none⟩ = some (.int .i64 (t : Int)) ∧ w1.cell? ⟨w.heap.size, 1, none⟩ = some (.int .u64 (LO N)) ∧ w1.cell? ⟨w.heap.size, 2, none⟩ = some (.int .u64 (HI N)) ∧ (∀ o, w1.frozen? ⟨w.heap.size, o, none⟩ = false) := ⟨keep_cell hb1 (by first | (simp [go_sem]; done)), keep_cell hb1 (by first | (simp [go_sem]; done)), keep_cell hb1 (by first | (simp [go_sem]; done)), keep_frozen2 hb1 (by first | (simp [go_sem]; done)) (by first | (simp [go_sem]; done))⟩; have KF1z0 : w.heap.size < w1.heap.size := World.block_lt_of_cell? _ _ KF1.1
  clear hb1
  go_wp2_with (at_builtin; refine wpList_app_br rfl _ _ rfl rfl a l c n rfl HN.out (HL.out.below hb1') (by have := HN.out; omega) ?_; intro b d wa hbr hba)
  have KFa : wa.cell? ⟨w.heap.size, 0, none⟩ = some (.int .i64 (t : Int)) ∧ wa.cell? ⟨w.heap.size, 1, none⟩ = some (.int .u64 (LO N)) ∧ wa.cell? ⟨w.heap.size, 2, none⟩ = some (.int .u64 (HI N)) ∧ (∀ o, wa.frozen? ⟨w.heap.size, o, none⟩ = false) := ⟨(hba.cell (p := ⟨w.heap.size, 0, none⟩) KF1z0).trans KF1.1, (hba.cell (p := ⟨w.heap.size, 1, none⟩) KF1z0).trans KF1.2.1, (hba.cell (p := ⟨w.heap.size, 2, none⟩) KF1z0).trans KF1.2.2.1, fun o => (hba.frozen (p := ⟨w.heap.size, o, none⟩) KF1z0).trans (KF1.2.2.2 o)⟩
  have hba' : Below w.heap.size w wa := hb1'.trans (hba.mono hs1)
  have hsa := hba'.size
  have KFaz0 : w.heap.size < wa.heap.size := Nat.lt_of_lt_of_le KF1z0 hba.size
  have HBR : Hid (Br wa b l) := hbr
  clear KF1 hba hbr
  go_wp2_with fail
  refine (value_no hv _).mono ?_
  rintro e w2 ⟨rfl, hb2⟩
  have hb2' := below_step (w := w) (by go_grown) hb2
  have hs2 := hb2'.size
  have hx2 : Below wa.heap.size wa w2 := hb2
  have KF2 : w2.cell? ⟨w.heap.size, 0, none⟩ = some (.int .i64 (t : Int)) ∧ w2.cell? ⟨w.heap.size, 1, none⟩ = some (.int .u64 (LO N)) ∧ w2.cell? ⟨w.heap.size, 2, none⟩ = some (.int .u64 (HI N)) ∧ (∀ o, w2.frozen? ⟨w.heap.size, o, none⟩ = false) := ⟨keep_cell hb2 (by first | (simp [go_sem]; done) | (simp [go_sem, KFa]; done) | (simp [go_sem, KFa, World.cell?_alloc_some]; done) | (simp [go_sem, KFa, frozen?_alloc_cells]; done)), keep_cell hb2 (by first | (simp [go_sem]; done) | (simp [go_sem, KFa]; done) | (simp [go_sem, KFa, World.cell?_alloc_some]; done) | (simp [go_sem, KFa, frozen?_alloc_cells]; done)), keep_cell hb2 (by first | (simp [go_sem]; done) | (simp [go_sem, KFa]; done) | (simp [go_sem, KFa, World.cell?_alloc_some]; done) | (simp [go_sem, KFa, frozen?_alloc_cells]; done)), keep_frozen2 hb2 (by first | (simp [go_sem]; done) | (simp [go_sem, KFa]; done) | (simp [go_sem, KFa, World.cell?_alloc_some]; done) | (simp [go_sem, KFa, frozen?_alloc_cells]; done)) (by first | (simp [go_sem]; done) | (simp [go_sem, KFa]; done) | (simp [go_sem, KFa, World.cell?_alloc_some]; done) | (simp [go_sem, KFa, frozen?_alloc_cells]; done))⟩; have KF2z0 : w.heap.size < w2.heap.size := World.block_lt_of_cell? _ _ KF2.1
  clear hb2 KFa
  go_wp2_with fail
  refine (HIS.out _).mono ?_
  rintro e w3 ⟨rfl, hb3⟩
  have hb3' := below_step (w := w) (by go_grown) hb3
  have hs3 := hb3'.size
  have hx3 : Below wa.heap.size wa w3 := (hx2.alloc hx2.size _).trans (hb3.mono (by have := hx2.size; simp; omega))
  have KF3 : w3.cell? ⟨w.heap.size, 0, none⟩ = some (.int .i64 (t : Int)) ∧ w3.cell? ⟨w.heap.size, 1, none⟩ = some (.int .u64 (LO N)) ∧ w3.cell? ⟨w.heap.size, 2, none⟩ = some (.int .u64 (HI N)) ∧ (∀ o, w3.frozen? ⟨w.heap.size, o, none⟩ = false) ∧ w3.cell? ⟨w2.heap.size, 0, none⟩ = some (.int .i64 0) ∧ w3.cell? ⟨w2.heap.size, 1, none⟩ = some (.int .u64 0) ∧ w3.cell? ⟨w2.heap.size, 2, none⟩ = some (.int .u64 0) ∧ (∀ o, w3.frozen? ⟨w2.heap.size, o, none⟩ = false) := ⟨keep_cell hb3 (by first | (simp [go_sem]; done) | (simp [go_sem, KF2]; done) | (simp [go_sem, KF2, World.cell?_alloc_some]; done) | (simp [go_sem, KF2, frozen?_alloc_cells]; done)), keep_cell hb3 (by first | (simp [go_sem]; done) | (simp [go_sem, KF2]; done) | (simp [go_sem, KF2, World.cell?_alloc_some]; done) | (simp [go_sem, KF2, frozen?_alloc_cells]; done)), keep_cell hb3 (by first | (simp [go_sem]; done) | (simp [go_sem, KF2]; done) | (simp [go_sem, KF2, World.cell?_alloc_some]; done) | (simp [go_sem, KF2, frozen?_alloc_cells]; done)), keep_frozen2 hb3 (by first | (simp [go_sem]; done) | (simp [go_sem, KF2]; done) | (simp [go_sem, KF2, World.cell?_alloc_some]; done) | (simp [go_sem, KF2, frozen?_alloc_cells]; done)) (by first | (simp [go_sem]; done) | (simp [go_sem, KF2]; done) | (simp [go_sem, KF2, World.cell?_alloc_some]; done) | (simp [go_sem, KF2, frozen?_alloc_cells]; done)), keep_cell hb3 (by first | (simp [go_sem]; done) | (simp [go_sem, KF2]; done) | (simp [go_sem, KF2, World.cell?_alloc_some]; done) | (simp [go_sem, KF2, frozen?_alloc_cells]; done)), keep_cell hb3 (by first | (simp [go_sem]; done) | (simp [go_sem, KF2]; done) | (simp [go_sem, KF2, World.cell?_alloc_some]; done) | (simp [go_sem, KF2, frozen?_alloc_cells]; done)), keep_cell hb3 (by first | (simp [go_sem]; done) | (simp [go_sem, KF2]; done) | (simp [go_sem, KF2, World.cell?_alloc_some]; done) | (simp [go_sem, KF2, frozen?_alloc_cells]; done)), keep_frozen2 hb3 (by first | (simp [go_sem]; done) | (simp [go_sem, KF2]; done) | (simp [go_sem, KF2, World.cell?_alloc_some]; done) | (simp [go_sem, KF2, frozen?_alloc_cells]; done)) (by first | (simp [go_sem]; done) | (simp [go_sem, KF2]; done) | (simp [go_sem, KF2, World.cell?_alloc_some]; done) | (simp [go_sem, KF2, frozen?_alloc_cells]; done))⟩; have KF3z0 : w.heap.size < w3.heap.size := World.block_lt_of_cell? _ _ KF3.1; have KF3z1 : w2.heap.size < w3.heap.size := World.block_lt_of_cell? _ _ KF3.2.2.2.2.1
  clear hb3 KF2
  go_wp2_with fail
  refine (bools_same (HBR.out.below hx3) (HL.out.below hb3') HN.out hm10).mono ?_
  rintro e w4 ⟨rfl, hb4⟩
  have hb4' := below_step (w := w) (by go_grown) hb4
  have hs4 := hb4'.size
  have KF4 : w4.cell? ⟨w.heap.size, 0, none⟩ = some (.int .i64 (t : Int)) ∧ w4.cell? ⟨w.heap.size, 1, none⟩ = some (.int .u64 (LO N)) ∧ w4.cell? ⟨w.heap.size, 2, none⟩ = some (.int .u64 (HI N)) ∧ (∀ o, w4.frozen? ⟨w.heap.size, o, none⟩ = false) ∧ w4.cell? ⟨w2.heap.size, 0, none⟩ = some (.int .i64 0) ∧ w4.cell? ⟨w2.heap.size, 1, none⟩ = some (.int .u64 0) ∧ w4.cell? ⟨w2.heap.size, 2, none⟩ = some (.int .u64 0) ∧ (∀ o, w4.frozen? ⟨w2.heap.size, o, none⟩ = false) := ⟨keep_cell hb4 (by first | (simp [go_sem]; done) | (simp [go_sem, KF3]; done) | (simp [go_sem, KF3, World.cell?_alloc_some]; done) | (simp [go_sem, KF3, frozen?_alloc_cells]; done)), keep_cell hb4 (by first | (simp [go_sem]; done) | (simp [go_sem, KF3]; done) | (simp [go_sem, KF3, World.cell?_alloc_some]; done) | (simp [go_sem, KF3, frozen?_alloc_cells]; done)), keep_cell hb4 (by first | (simp [go_sem]; done) | (simp [go_sem, KF3]; done) | (simp [go_sem, KF3, World.cell?_alloc_some]; done) | (simp [go_sem, KF3, frozen?_alloc_cells]; done)), keep_frozen2 hb4 (by first | (simp [go_sem]; done) | (simp [go_sem, KF3]; done) | (simp [go_sem, KF3, World.cell?_alloc_some]; done) | (simp [go_sem, KF3, frozen?_alloc_cells]; done)) (by first | (simp [go_sem]; done) | (simp [go_sem, KF3]; done) | (simp [go_sem, KF3, World.cell?_alloc_some]; done) | (simp [go_sem, KF3, frozen?_alloc_cells]; done)), keep_cell hb4 (by first | (simp [go_sem]; done) | (simp [go_sem, KF3]; done) | (simp [go_sem, KF3, World.cell?_alloc_some]; done) | (simp [go_sem, KF3, frozen?_alloc_cells]; done)), keep_cell hb4 (by first | (simp [go_sem]; done) | (simp [go_sem, KF3]; done) | (simp [go_sem, KF3, World.cell?_alloc_some]; done) | (simp [go_sem, KF3, frozen?_alloc_cells]; done)), keep_cell hb4 (by first | (simp [go_sem]; done) | (simp [go_sem, KF3]; done) | (simp [go_sem, KF3, World.cell?_alloc_some]; done) | (simp [go_sem, KF3, frozen?_alloc_cells]; done)), keep_frozen2 hb4 (by first | (simp [go_sem]; done) | (simp [go_sem, KF3]; done) | (simp [go_sem, KF3, World.cell?_alloc_some]; done) | (simp [go_sem, KF3, frozen?_alloc_cells]; done)) (by first | (simp [go_sem]; done) | (simp [go_sem, KF3]; done) | (simp [go_sem, KF3, World.cell?_alloc_some]; done) | (simp [go_sem, KF3, frozen?_alloc_cells]; done))⟩; have KF4z0 : w.heap.size < w4.heap.size := World.block_lt_of_cell? _ _ KF4.1; have KF4z1 : w2.heap.size < w4.heap.size := World.block_lt_of_cell? _ _ KF4.2.2.2.2.1
  clear hb4 KF3
  clear hx2 hx3
  go_wp2_with fail
  go_quiet (fail)
  have hbq : Below w.heap.size w (w4.drewN nq) := ⟨hb4'.os, hb4'.tape, hb4'.output, hb4'.size, hb4'.block⟩
  go_wp2_with fail
  refine (HB.out _).mono ?_
  rintro e w5 ⟨g, rfl, hB, hb5⟩
  have hb5' := below_step (w := w) (by go_grown) hb5
  have hs5 := hb5'.size
  have HG : Hid (∀ j, j < m → w5.cell? ⟨g, 0 + j, none⟩ = some (.bool (N.testBit j))) := (fun j hj => by rw [Nat.zero_add]; exact Bs.cell hB (bl_len m N).symm (bl_get hj)); have hgl := (Bs.lt hB).2; have hx5 := Below.refl w5.heap.size w5; clear hB
  have KF5 : w5.cell? ⟨w.heap.size, 0, none⟩ = some (.int .i64 (t : Int)) ∧ w5.cell? ⟨w.heap.size, 1, none⟩ = some (.int .u64 (LO N)) ∧ w5.cell? ⟨w.heap.size, 2, none⟩ = some (.int .u64 (HI N)) ∧ (∀ o, w5.frozen? ⟨w.heap.size, o, none⟩ = false) ∧ w5.cell? ⟨w2.heap.size, 0, none⟩ = some (.int .i64 0) ∧ w5.cell? ⟨w2.heap.size, 1, none⟩ = some (.int .u64 0) ∧ w5.cell? ⟨w2.heap.size, 2, none⟩ = some (.int .u64 0) ∧ (∀ o, w5.frozen? ⟨w2.heap.size, o, none⟩ = false) := ⟨keep_cell hb5 (by first | (simp [go_sem]; done) | (simp [go_sem, KF4]; done) | (simp [go_sem, KF4, World.cell?_alloc_some]; done) | (simp [go_sem, KF4, frozen?_alloc_cells]; done)), keep_cell hb5 (by first | (simp [go_sem]; done) | (simp [go_sem, KF4]; done) | (simp [go_sem, KF4, World.cell?_alloc_some]; done) | (simp [go_sem, KF4, frozen?_alloc_cells]; done)), keep_cell hb5 (by first | (simp [go_sem]; done) | (simp [go_sem, KF4]; done) | (simp [go_sem, KF4, World.cell?_alloc_some]; done) | (simp [go_sem, KF4, frozen?_alloc_cells]; done)), keep_frozen2 hb5 (by first | (simp [go_sem]; done) | (simp [go_sem, KF4]; done) | (simp [go_sem, KF4, World.cell?_alloc_some]; done) | (simp [go_sem, KF4, frozen?_alloc_cells]; done)) (by first | (simp [go_sem]; done) | (simp [go_sem, KF4]; done) | (simp [go_sem, KF4, World.cell?_alloc_some]; done) | (simp [go_sem, KF4, frozen?_alloc_cells]; done)), keep_cell hb5 (by first | (simp [go_sem]; done) | (simp [go_sem, KF4]; done) | (simp [go_sem, KF4, World.cell?_alloc_some]; done) | (simp [go_sem, KF4, frozen?_alloc_cells]; done)), keep_cell hb5 (by first | (simp [go_sem]; done) | (simp [go_sem, KF4]; done) | (simp [go_sem, KF4, World.cell?_alloc_some]; done) | (simp [go_sem, KF4, frozen?_alloc_cells]; done)), keep_cell hb5 (by first | (simp [go_sem]; done) | (simp [go_sem, KF4]; done) | (simp [go_sem, KF4, World.cell?_alloc_some]; done) | (simp [go_sem, KF4, frozen?_alloc_cells]; done)), keep_frozen2 hb5 (by first | (simp [go_sem]; done) | (simp [go_sem, KF4]; done) | (simp [go_sem, KF4, World.cell?_alloc_some]; done) | (simp [go_sem, KF4, frozen?_alloc_cells]; done)) (by first | (simp [go_sem]; done) | (simp [go_sem, KF4]; done) | (simp [go_sem, KF4, World.cell?_alloc_some]; done) | (simp [go_sem, KF4, frozen?_alloc_cells]; done))⟩; have KF5z0 : w.heap.size < w5.heap.size := World.block_lt_of_cell? _ _ KF5.1; have KF5z1 : w2.heap.size < w5.heap.size := World.block_lt_of_cell? _ _ KF5.2.2.2.2.1
  clear hb5 KF4
  go_wp2_with fail
  refine (HR.out _).mono ?_
  rintro e w6 ⟨rfl, hb6⟩
  have hb6' := below_step (w := w) (by go_grown) hb6
  have hs6 := hb6'.size
  have hx6 : Below w5.heap.size w5 w6 := hb6; have hgl6 : g < w6.heap.size := Nat.lt_of_lt_of_le hgl hb6.size
  have KF6 : w6.cell? ⟨w.heap.size, 0, none⟩ = some (.int .i64 (t : Int)) ∧ w6.cell? ⟨w.heap.size, 1, none⟩ = some (.int .u64 (LO N)) ∧ w6.cell? ⟨w.heap.size, 2, none⟩ = some (.int .u64 (HI N)) ∧ (∀ o, w6.frozen? ⟨w.heap.size, o, none⟩ = false) ∧ w6.cell? ⟨w2.heap.size, 0, none⟩ = some (.int .i64 0) ∧ w6.cell? ⟨w2.heap.size, 1, none⟩ = some (.int .u64 0) ∧ w6.cell? ⟨w2.heap.size, 2, none⟩ = some (.int .u64 0) ∧ (∀ o, w6.frozen? ⟨w2.heap.size, o, none⟩ = false) := ⟨keep_cell hb6 (by first | (simp [go_sem]; done) | (simp [go_sem, KF5]; done) | (simp [go_sem, KF5, World.cell?_alloc_some]; done) | (simp [go_sem, KF5, frozen?_alloc_cells]; done)), keep_cell hb6 (by first | (simp [go_sem]; done) | (simp [go_sem, KF5]; done) | (simp [go_sem, KF5, World.cell?_alloc_some]; done) | (simp [go_sem, KF5, frozen?_alloc_cells]; done)), keep_cell hb6 (by first | (simp [go_sem]; done) | (simp [go_sem, KF5]; done) | (simp [go_sem, KF5, World.cell?_alloc_some]; done) | (simp [go_sem, KF5, frozen?_alloc_cells]; done)), keep_frozen2 hb6 (by first | (simp [go_sem]; done) | (simp [go_sem, KF5]; done) | (simp [go_sem, KF5, World.cell?_alloc_some]; done) | (simp [go_sem, KF5, frozen?_alloc_cells]; done)) (by first | (simp [go_sem]; done) | (simp [go_sem, KF5]; done) | (simp [go_sem, KF5, World.cell?_alloc_some]; done) | (simp [go_sem, KF5, frozen?_alloc_cells]; done)), keep_cell hb6 (by first | (simp [go_sem]; done) | (simp [go_sem, KF5]; done) | (simp [go_sem, KF5, World.cell?_alloc_some]; done) | (simp [go_sem, KF5, frozen?_alloc_cells]; done)), keep_cell hb6 (by first | (simp [go_sem]; done) | (simp [go_sem, KF5]; done) | (simp [go_sem, KF5, World.cell?_alloc_some]; done) | (simp [go_sem, KF5, frozen?_alloc_cells]; done)), keep_cell hb6 (by first | (simp [go_sem]; done) | (simp [go_sem, KF5]; done) | (simp [go_sem, KF5, World.cell?_alloc_some]; done) | (simp [go_sem, KF5, frozen?_alloc_cells]; done)), keep_frozen2 hb6 (by first | (simp [go_sem]; done) | (simp [go_sem, KF5]; done) | (simp [go_sem, KF5, World.cell?_alloc_some]; done) | (simp [go_sem, KF5, frozen?_alloc_cells]; done)) (by first | (simp [go_sem]; done) | (simp [go_sem, KF5]; done) | (simp [go_sem, KF5, World.cell?_alloc_some]; done) | (simp [go_sem, KF5, frozen?_alloc_cells]; done))⟩; have KF6z0 : w.heap.size < w6.heap.size := World.block_lt_of_cell? _ _ KF6.1; have KF6z1 : w2.heap.size < w6.heap.size := World.block_lt_of_cell? _ _ KF6.2.2.2.2.1
  clear hb6 KF5
  go_wp2_with fail
  refine (HV.out g w6 (fun j hj => (hx6.cell (p := ⟨g, 0 + j, none⟩) hgl).trans (HG.out j hj)) hgl6).mono ?_
  rintro e w7 ⟨rfl, hb7⟩
  have hb7' := below_step (w := w) (by go_grown) hb7
  have hs7 := hb7'.size
  have KF7 : w7.cell? ⟨w.heap.size, 0, none⟩ = some (.int .i64 (t : Int)) ∧ w7.cell? ⟨w.heap.size, 1, none⟩ = some (.int .u64 (LO N)) ∧ w7.cell? ⟨w.heap.size, 2, none⟩ = some (.int .u64 (HI N)) ∧ (∀ o, w7.frozen? ⟨w.heap.size, o, none⟩ = false) ∧ w7.cell? ⟨w2.heap.size, 0, none⟩ = some (.int .i64 0) ∧ w7.cell? ⟨w2.heap.size, 1, none⟩ = some (.int .u64 0) ∧ w7.cell? ⟨w2.heap.size, 2, none⟩ = some (.int .u64 0) ∧ (∀ o, w7.frozen? ⟨w2.heap.size, o, none⟩ = false) := ⟨keep_cell hb7 (by first | (simp [go_sem]; done) | (simp [go_sem, KF6]; done) | (simp [go_sem, KF6, World.cell?_alloc_some]; done) | (simp [go_sem, KF6, frozen?_alloc_cells]; done)), keep_cell hb7 (by first | (simp [go_sem]; done) | (simp [go_sem, KF6]; done) | (simp [go_sem, KF6, World.cell?_alloc_some]; done) | (simp [go_sem, KF6, frozen?_alloc_cells]; done)), keep_cell hb7 (by first | (simp [go_sem]; done) | (simp [go_sem, KF6]; done) | (simp [go_sem, KF6, World.cell?_alloc_some]; done) | (simp [go_sem, KF6, frozen?_alloc_cells]; done)), keep_frozen2 hb7 (by first | (simp [go_sem]; done) | (simp [go_sem, KF6]; done) | (simp [go_sem, KF6, World.cell?_alloc_some]; done) | (simp [go_sem, KF6, frozen?_alloc_cells]; done)) (by first | (simp [go_sem]; done) | (simp [go_sem, KF6]; done) | (simp [go_sem, KF6, World.cell?_alloc_some]; done) | (simp [go_sem, KF6, frozen?_alloc_cells]; done)), keep_cell hb7 (by first | (simp [go_sem]; done) | (simp [go_sem, KF6]; done) | (simp [go_sem, KF6, World.cell?_alloc_some]; done) | (simp [go_sem, KF6, frozen?_alloc_cells]; done)), keep_cell hb7 (by first | (simp [go_sem]; done) | (simp [go_sem, KF6]; done) | (simp [go_sem, KF6, World.cell?_alloc_some]; done) | (simp [go_sem, KF6, frozen?_alloc_cells]; done)), keep_cell hb7 (by first | (simp [go_sem]; done) | (simp [go_sem, KF6]; done) | (simp [go_sem, KF6, World.cell?_alloc_some]; done) | (simp [go_sem, KF6, frozen?_alloc_cells]; done)), keep_frozen2 hb7 (by first | (simp [go_sem]; done) | (simp [go_sem, KF6]; done) | (simp [go_sem, KF6, World.cell?_alloc_some]; done) | (simp [go_sem, KF6, frozen?_alloc_cells]; done)) (by first | (simp [go_sem]; done) | (simp [go_sem, KF6]; done) | (simp [go_sem, KF6, World.cell?_alloc_some]; done) | (simp [go_sem, KF6, frozen?_alloc_cells]; done))⟩; have KF7z0 : w.heap.size < w7.heap.size := World.block_lt_of_cell? _ _ KF7.1; have KF7z1 : w2.heap.size < w7.heap.size := World.block_lt_of_cell? _ _ KF7.2.2.2.2.1
  clear hb7 KF6
  clear hx6 hgl6 hgl HG
  go_wp2_with fail
  all_goals first | (exfalso; omega) | (go_ret; exact ⟨rfl, by go_grown⟩)

set_option maxRecDepth 100000 in
set_option maxHeartbeats 1200000 in
theorem walk_no2_f {A lo hi s : Int} {l : List Bool} {a : Option Addr} {n c : Nat} (hv : ((n : Int) != bos s) = true) (h1 : (1 : Int) ≤ s) (hne : ((n : Int) == s) = false) (hs : srt s = true) (HB : Hid (∀ wx, Calls Try.prog 11 #[.agg #[.int .i64 A, .int .u64 lo, .int .u64 hi]] wx fun e w' => e = .returned (.slice none 0 0) ∧ Below wx.heap.size wx w')) (HR : Hid (∀ wx, Calls Try.prog 12 #[.agg #[.int .i64 A, .int .u64 lo, .int .u64 hi]] wx fun e w' => e = .returned (.bool false) ∧ Below wx.heap.size wx w')) (w : World) (hl : Br w a l) (hn : n = l.length) (hm : n ≤ 200) :
    Calls Try.prog 3 #[.int .i64 s, .slice a n c, .agg #[.int .i64 A, .int .u64 lo, .int .u64 hi]] w fun e w' => e = .returned (.bool true) ∧ Below w.heap.size w w' := by
  have hm9 : ¬ 200 < (n : Int) := by omega
  have HL : Hid (Br w a l) := hl
  have HN : Hid (n = l.length) := hn
  have HIS : Hid (∀ wx, Calls Try.prog 7 #[.int .i64 s] wx fun e w' => e = .returned (.bool true) ∧ Below wx.heap.size wx w') := fun wx => (refIs_any s wx).mono fun e w' h => ⟨by rw [← hs]; exact h.1, h.2 ▸ Below.refl _ _⟩
  have hm10 : n ≤ 1000 := by omega
  clear hl hn hs
  go_enter Try.func3, Try.ntmps3
  go_wp2_with fail
  refine (known_any _).mono ?_
  rintro e w1 ⟨rfl, hb1⟩
  have hb1' := below_step (w := w) (by go_grown) hb1
  have hs1 := hb1'.size
  have KF1 : w1.cell? ⟨w.heap.size, 0, none⟩ = some (.int .i64 A) ∧ w1.cell? ⟨w.heap.size, 1, none⟩ = some (.int .u64 lo) ∧ w1.cell? ⟨w.heap.size, 2, none⟩ = some (.int .u64 hi) ∧ (∀ o, w1.frozen? ⟨w.heap.size, o, none⟩ = false) := ⟨keep_cell hb1 (by first | (simp [go_sem]; done)), keep_cell hb1 (by first | (simp [go_sem]; done)), keep_cell hb1 (by first | (simp [go_sem]; done)), keep_frozen2 hb1 (by first | (simp [go_sem]; done)) (by first | (simp [go_sem]; done))⟩; have KF1z0 : w.heap.size < w1.heap.size := World.block_lt_of_cell? _ _ KF1.1
  clear hb1
  go_wp2_with (at_builtin; refine wpList_app_br rfl _ _ rfl rfl a l c n rfl HN.out (HL.out.below hb1') (by have := HN.out; omega) ?_; intro b d wa hbr hba)
  have KFa : wa.cell? ⟨w.heap.size, 0, none⟩ = some (.int .i64 A) ∧ wa.cell? ⟨w.heap.size, 1, none⟩ = some (.int .u64 lo) ∧ wa.cell? ⟨w.heap.size, 2, none⟩ = some (.int .u64 hi) ∧ (∀ o, wa.frozen? ⟨w.heap.size, o, none⟩ = false) := ⟨(hba.cell (p := ⟨w.heap.size, 0, none⟩) KF1z0).trans KF1.1, (hba.cell (p := ⟨w.heap.size, 1, none⟩) KF1z0).trans KF1.2.1, (hba.cell (p := ⟨w.heap.size, 2, none⟩) KF1z0).trans KF1.2.2.1, fun o => (hba.frozen (p := ⟨w.heap.size, o, none⟩) KF1z0).trans (KF1.2.2.2 o)⟩
  have hba' : Below w.heap.size w wa := hb1'.trans (hba.mono hs1)
  have hsa := hba'.size
  have KFaz0 : w.heap.size < wa.heap.size := Nat.lt_of_lt_of_le KF1z0 hba.size
  have HBR : Hid (Br wa b l) := hbr
  clear KF1 hba hbr
  go_wp2_with fail
  refine (value_no hv _).mono ?_
  rintro e w2 ⟨rfl, hb2⟩
  have hb2' := below_step (w := w) (by go_grown) hb2
  have hs2 := hb2'.size
  have hx2 : Below wa.heap.size wa w2 := hb2
  have KF2 : w2.cell? ⟨w.heap.size, 0, none⟩ = some (.int .i64 A) ∧ w2.cell? ⟨w.heap.size, 1, none⟩ = some (.int .u64 lo) ∧ w2.cell? ⟨w.heap.size, 2, none⟩ = some (.int .u64 hi) ∧ (∀ o, w2.frozen? ⟨w.heap.size, o, none⟩ = false) := ⟨keep_cell hb2 (by first | (simp [go_sem]; done) | (simp [go_sem, KFa]; done) | (simp [go_sem, KFa, World.cell?_alloc_some]; done) | (simp [go_sem, KFa, frozen?_alloc_cells]; done)), keep_cell hb2 (by first | (simp [go_sem]; done) | (simp [go_sem, KFa]; done) | (simp [go_sem, KFa, World.cell?_alloc_some]; done) | (simp [go_sem, KFa, frozen?_alloc_cells]; done)), keep_cell hb2 (by first | (simp [go_sem]; done) | (simp [go_sem, KFa]; done) | (simp [go_sem, KFa, World.cell?_alloc_some]; done) | (simp [go_sem, KFa, frozen?_alloc_cells]; done)), keep_frozen2 hb2 (by first | (simp [go_sem]; done) | (simp [go_sem, KFa]; done) | (simp [go_sem, KFa, World.cell?_alloc_some]; done) | (simp [go_sem, KFa, frozen?_alloc_cells]; done)) (by first | (simp [go_sem]; done) | (simp [go_sem, KFa]; done) | (simp [go_sem, KFa, World.cell?_alloc_some]; done) | (simp [go_sem, KFa, frozen?_alloc_cells]; done))⟩; have KF2z0 : w.heap.size < w2.heap.size := World.block_lt_of_cell? _ _ KF2.1
  clear hb2 KFa
  go_wp2_with fail
  refine (HIS.out _).mono ?_
  rintro e w3 ⟨rfl, hb3⟩
  have hb3' := below_step (w := w) (by go_grown) hb3
  have hs3 := hb3'.size
  have hx3 : Below wa.heap.size wa w3 := (hx2.alloc hx2.size _).trans (hb3.mono (by have := hx2.size; simp; omega))
  have KF3 : w3.cell? ⟨w.heap.size, 0, none⟩ = some (.int .i64 A) ∧ w3.cell? ⟨w.heap.size, 1, none⟩ = some (.int .u64 lo) ∧ w3.cell? ⟨w.heap.size, 2, none⟩ = some (.int .u64 hi) ∧ (∀ o, w3.frozen? ⟨w.heap.size, o, none⟩ = false) ∧ w3.cell? ⟨w2.heap.size, 0, none⟩ = some (.int .i64 0) ∧ w3.cell? ⟨w2.heap.size, 1, none⟩ = some (.int .u64 0) ∧ w3.cell? ⟨w2.heap.size, 2, none⟩ = some (.int .u64 0) ∧ (∀ o, w3.frozen? ⟨w2.heap.size, o, none⟩ = false) := ⟨keep_cell hb3 (by first | (simp [go_sem]; done) | (simp [go_sem, KF2]; done) | (simp [go_sem, KF2, World.cell?_alloc_some]; done) | (simp [go_sem, KF2, frozen?_alloc_cells]; done)), keep_cell hb3 (by first | (simp [go_sem]; done) | (simp [go_sem, KF2]; done) | (simp [go_sem, KF2, World.cell?_alloc_some]; done) | (simp [go_sem, KF2, frozen?_alloc_cells]; done)), keep_cell hb3 (by first | (simp [go_sem]; done) | (simp [go_sem, KF2]; done) | (simp [go_sem, KF2, World.cell?_alloc_some]; done) | (simp [go_sem, KF2, frozen?_alloc_cells]; done)), keep_frozen2 hb3 (by first | (simp [go_sem]; done) | (simp [go_sem, KF2]; done) | (simp [go_sem, KF2, World.cell?_alloc_some]; done) | (simp [go_sem, KF2, frozen?_alloc_cells]; done)) (by first | (simp [go_sem]; done) | (simp [go_sem, KF2]; done) | (simp [go_sem, KF2, World.cell?_alloc_some]; done) | (simp [go_sem, KF2, frozen?_alloc_cells]; done)), keep_cell hb3 (by first | (simp [go_sem]; done) | (simp [go_sem, KF2]; done) | (simp [go_sem, KF2, World.cell?_alloc_some]; done) | (simp [go_sem, KF2, frozen?_alloc_cells]; done)), keep_cell hb3 (by first | (simp [go_sem]; done) | (simp [go_sem, KF2]; done) | (simp [go_sem, KF2, World.cell?_alloc_some]; done) | (simp [go_sem, KF2, frozen?_alloc_cells]; done)), keep_cell hb3 (by first | (simp [go_sem]; done) | (simp [go_sem, KF2]; done) | (simp [go_sem, KF2, World.cell?_alloc_some]; done) | (simp [go_sem, KF2, frozen?_alloc_cells]; done)), keep_frozen2 hb3 (by first | (simp [go_sem]; done) | (simp [go_sem, KF2]; done) | (simp [go_sem, KF2, World.cell?_alloc_some]; done) | (simp [go_sem, KF2, frozen?_alloc_cells]; done)) (by first | (simp [go_sem]; done) | (simp [go_sem, KF2]; done) | (simp [go_sem, KF2, World.cell?_alloc_some]; done) | (simp [go_sem, KF2, frozen?_alloc_cells]; done))⟩; have KF3z0 : w.heap.size < w3.heap.size := World.block_lt_of_cell? _ _ KF3.1; have KF3z1 : w2.heap.size < w3.heap.size := World.block_lt_of_cell? _ _ KF3.2.2.2.2.1
  clear hb3 KF2
  go_wp2_with fail
  refine (bools_same (HBR.out.below hx3) (HL.out.below hb3') HN.out hm10).mono ?_
  rintro e w4 ⟨rfl, hb4⟩
  have hb4' := below_step (w := w) (by go_grown) hb4
  have hs4 := hb4'.size
  have KF4 : w4.cell? ⟨w.heap.size, 0, none⟩ = some (.int .i64 A) ∧ w4.cell? ⟨w.heap.size, 1, none⟩ = some (.int .u64 lo) ∧ w4.cell? ⟨w.heap.size, 2, none⟩ = some (.int .u64 hi) ∧ (∀ o, w4.frozen? ⟨w.heap.size, o, none⟩ = false) ∧ w4.cell? ⟨w2.heap.size, 0, none⟩ = some (.int .i64 0) ∧ w4.cell? ⟨w2.heap.size, 1, none⟩ = some (.int .u64 0) ∧ w4.cell? ⟨w2.heap.size, 2, none⟩ = some (.int .u64 0) ∧ (∀ o, w4.frozen? ⟨w2.heap.size, o, none⟩ = false) := ⟨keep_cell hb4 (by first | (simp [go_sem]; done) | (simp [go_sem, KF3]; done) | (simp [go_sem, KF3, World.cell?_alloc_some]; done) | (simp [go_sem, KF3, frozen?_alloc_cells]; done)), keep_cell hb4 (by first | (simp [go_sem]; done) | (simp [go_sem, KF3]; done) | (simp [go_sem, KF3, World.cell?_alloc_some]; done) | (simp [go_sem, KF3, frozen?_alloc_cells]; done)), keep_cell hb4 (by first | (simp [go_sem]; done) | (simp [go_sem, KF3]; done) | (simp [go_sem, KF3, World.cell?_alloc_some]; done) | (simp [go_sem, KF3, frozen?_alloc_cells]; done)), keep_frozen2 hb4 (by first | (simp [go_sem]; done) | (simp [go_sem, KF3]; done) | (simp [go_sem, KF3, World.cell?_alloc_some]; done) | (simp [go_sem, KF3, frozen?_alloc_cells]; done)) (by first | (simp [go_sem]; done) | (simp [go_sem, KF3]; done) | (simp [go_sem, KF3, World.cell?_alloc_some]; done) | (simp [go_sem, KF3, frozen?_alloc_cells]; done)), keep_cell hb4 (by first | (simp [go_sem]; done) | (simp [go_sem, KF3]; done) | (simp [go_sem, KF3, World.cell?_alloc_some]; done) | (simp [go_sem, KF3, frozen?_alloc_cells]; done)), keep_cell hb4 (by first | (simp [go_sem]; done) | (simp [go_sem, KF3]; done) | (simp [go_sem, KF3, World.cell?_alloc_some]; done) | (simp [go_sem, KF3, frozen?_alloc_cells]; done)), keep_cell hb4 (by first | (simp [go_sem]; done) | (simp [go_sem, KF3]; done) | (simp [go_sem, KF3, World.cell?_alloc_some]; done) | (simp [go_sem, KF3, frozen?_alloc_cells]; done)), keep_frozen2 hb4 (by first | (simp [go_sem]; done) | (simp [go_sem, KF3]; done) | (simp [go_sem, KF3, World.cell?_alloc_some]; done) | (simp [go_sem, KF3, frozen?_alloc_cells]; done)) (by first | (simp [go_sem]; done) | (simp [go_sem, KF3]; done) | (simp [go_sem, KF3, World.cell?_alloc_some]; done) | (simp [go_sem, KF3, frozen?_alloc_cells]; done))⟩; have KF4z0 : w.heap.size < w4.heap.size := World.block_lt_of_cell? _ _ KF4.1; have KF4z1 : w2.heap.size < w4.heap.size := World.block_lt_of_cell? _ _ KF4.2.2.2.2.1
  clear hb4 KF3
  clear hx2 hx3
  go_wp2_with fail
  go_quiet (fail)
  have hbq : Below w.heap.size w (w4.drewN nq) := ⟨hb4'.os, hb4'.tape, hb4'.output, hb4'.size, hb4'.block⟩
  go_wp2_with fail
  refine (HB.out _).mono ?_
  rintro e w5 ⟨rfl, hb5⟩
  have hb5' := below_step (w := w) (by go_grown) hb5
  have hs5 := hb5'.size
  have KF5 : w5.cell? ⟨w.heap.size, 0, none⟩ = some (.int .i64 A) ∧ w5.cell? ⟨w.heap.size, 1, none⟩ = some (.int .u64 lo) ∧ w5.cell? ⟨w.heap.size, 2, none⟩ = some (.int .u64 hi) ∧ (∀ o, w5.frozen? ⟨w.heap.size, o, none⟩ = false) ∧ w5.cell? ⟨w2.heap.size, 0, none⟩ = some (.int .i64 0) ∧ w5.cell? ⟨w2.heap.size, 1, none⟩ = some (.int .u64 0) ∧ w5.cell? ⟨w2.heap.size, 2, none⟩ = some (.int .u64 0) ∧ (∀ o, w5.frozen? ⟨w2.heap.size, o, none⟩ = false) := ⟨keep_cell hb5 (by first | (simp [go_sem]; done) | (simp [go_sem, KF4]; done) | (simp [go_sem, KF4, World.cell?_alloc_some]; done) | (simp [go_sem, KF4, frozen?_alloc_cells]; done)), keep_cell hb5 (by first | (simp [go_sem]; done) | (simp [go_sem, KF4]; done) | (simp [go_sem, KF4, World.cell?_alloc_some]; done) | (simp [go_sem, KF4, frozen?_alloc_cells]; done)), keep_cell hb5 (by first | (simp [go_sem]; done) | (simp [go_sem, KF4]; done) | (simp [go_sem, KF4, World.cell?_alloc_some]; done) | (simp [go_sem, KF4, frozen?_alloc_cells]; done)), keep_frozen2 hb5 (by first | (simp [go_sem]; done) | (simp [go_sem, KF4]; done) | (simp [go_sem, KF4, World.cell?_alloc_some]; done) | (simp [go_sem, KF4, frozen?_alloc_cells]; done)) (by first | (simp [go_sem]; done) | (simp [go_sem, KF4]; done) | (simp [go_sem, KF4, World.cell?_alloc_some]; done) | (simp [go_sem, KF4, frozen?_alloc_cells]; done)), keep_cell hb5 (by first | (simp [go_sem]; done) | (simp [go_sem, KF4]; done) | (simp [go_sem, KF4, World.cell?_alloc_some]; done) | (simp [go_sem, KF4, frozen?_alloc_cells]; done)), keep_cell hb5 (by first | (simp [go_sem]; done) | (simp [go_sem, KF4]; done) | (simp [go_sem, KF4, World.cell?_alloc_some]; done) | (simp [go_sem, KF4, frozen?_alloc_cells]; done)), keep_cell hb5 (by first | (simp [go_sem]; done) | (simp [go_sem, KF4]; done) | (simp [go_sem, KF4, World.cell?_alloc_some]; done) | (simp [go_sem, KF4, frozen?_alloc_cells]; done)), keep_frozen2 hb5 (by first | (simp [go_sem]; done) | (simp [go_sem, KF4]; done) | (simp [go_sem, KF4, World.cell?_alloc_some]; done) | (simp [go_sem, KF4, frozen?_alloc_cells]; done)) (by first | (simp [go_sem]; done) | (simp [go_sem, KF4]; done) | (simp [go_sem, KF4, World.cell?_alloc_some]; done) | (simp [go_sem, KF4, frozen?_alloc_cells]; done))⟩; have KF5z0 : w.heap.size < w5.heap.size := World.block_lt_of_cell? _ _ KF5.1; have KF5z1 : w2.heap.size < w5.heap.size := World.block_lt_of_cell? _ _ KF5.2.2.2.2.1
  clear hb5 KF4
  go_wp2_with fail
  refine (HR.out _).mono ?_
  rintro e w6 ⟨rfl, hb6⟩
  have hb6' := below_step (w := w) (by go_grown) hb6
  have hs6 := hb6'.size
  have KF6 : w6.cell? ⟨w.heap.size, 0, none⟩ = some (.int .i64 A) ∧ w6.cell? ⟨w.heap.size, 1, none⟩ = some (.int .u64 lo) ∧ w6.cell? ⟨w.heap.size, 2, none⟩ = some (.int .u64 hi) ∧ (∀ o, w6.frozen? ⟨w.heap.size, o, none⟩ = false) ∧ w6.cell? ⟨w2.heap.size, 0, none⟩ = some (.int .i64 0) ∧ w6.cell? ⟨w2.heap.size, 1, none⟩ = some (.int .u64 0) ∧ w6.cell? ⟨w2.heap.size, 2, none⟩ = some (.int .u64 0) ∧ (∀ o, w6.frozen? ⟨w2.heap.size, o, none⟩ = false) := ⟨keep_cell hb6 (by first | (simp [go_sem]; done) | (simp [go_sem, KF5]; done) | (simp [go_sem, KF5, World.cell?_alloc_some]; done) | (simp [go_sem, KF5, frozen?_alloc_cells]; done)), keep_cell hb6 (by first | (simp [go_sem]; done) | (simp [go_sem, KF5]; done) | (simp [go_sem, KF5, World.cell?_alloc_some]; done) | (simp [go_sem, KF5, frozen?_alloc_cells]; done)), keep_cell hb6 (by first | (simp [go_sem]; done) | (simp [go_sem, KF5]; done) | (simp [go_sem, KF5, World.cell?_alloc_some]; done) | (simp [go_sem, KF5, frozen?_alloc_cells]; done)), keep_frozen2 hb6 (by first | (simp [go_sem]; done) | (simp [go_sem, KF5]; done) | (simp [go_sem, KF5, World.cell?_alloc_some]; done) | (simp [go_sem, KF5, frozen?_alloc_cells]; done)) (by first | (simp [go_sem]; done) | (simp [go_sem, KF5]; done) | (simp [go_sem, KF5, World.cell?_alloc_some]; done) | (simp [go_sem, KF5, frozen?_alloc_cells]; done)), keep_cell hb6 (by first | (simp [go_sem]; done) | (simp [go_sem, KF5]; done) | (simp [go_sem, KF5, World.cell?_alloc_some]; done) | (simp [go_sem, KF5, frozen?_alloc_cells]; done)), keep_cell hb6 (by first | (simp [go_sem]; done) | (simp [go_sem, KF5]; done) | (simp [go_sem, KF5, World.cell?_alloc_some]; done) | (simp [go_sem, KF5, frozen?_alloc_cells]; done)), keep_cell hb6 (by first | (simp [go_sem]; done) | (simp [go_sem, KF5]; done) | (simp [go_sem, KF5, World.cell?_alloc_some]; done) | (simp [go_sem, KF5, frozen?_alloc_cells]; done)), keep_frozen2 hb6 (by first | (simp [go_sem]; done) | (simp [go_sem, KF5]; done) | (simp [go_sem, KF5, World.cell?_alloc_some]; done) | (simp [go_sem, KF5, frozen?_alloc_cells]; done)) (by first | (simp [go_sem]; done) | (simp [go_sem, KF5]; done) | (simp [go_sem, KF5, World.cell?_alloc_some]; done) | (simp [go_sem, KF5, frozen?_alloc_cells]; done))⟩; have KF6z0 : w.heap.size < w6.heap.size := World.block_lt_of_cell? _ _ KF6.1; have KF6z1 : w2.heap.size < w6.heap.size := World.block_lt_of_cell? _ _ KF6.2.2.2.2.1
  clear hb6 KF5
  go_wp2_with fail
  go_ret
  exact ⟨rfl, by go_grown⟩

set_option maxRecDepth 100000 in
set_option maxHeartbeats 1200000 in
theorem walk_no2_t {t N m : Nat} {s : Int} {l : List Bool} {a : Option Addr} {n c : Nat} (hv : ((n : Int) != bos s) = true) (h1 : (1 : Int) ≤ s) (hne : ((n : Int) == s) = false) (hs : srt s = true) (hmt : (m : Int) = max (t : Int) 1) (HB : Hid (∀ wx, Calls Try.prog 11 #[.agg #[.int .i64 t, .int .u64 (LO (N)), .int .u64 (HI (N))]] wx fun e w' => ∃ g, e = .returned (.slice (some ⟨g, 0, none⟩) m m) ∧ Bs w' wx.heap.size (.slice (some ⟨g, 0, none⟩) m m) (bl m N) ∧ Below wx.heap.size wx w')) (HR : Hid (∀ wx, Calls Try.prog 12 #[.agg #[.int .i64 t, .int .u64 (LO (N)), .int .u64 (HI (N))]] wx fun e w' => e = .returned (.bool true) ∧ Below wx.heap.size wx w')) (HV : Hid (∀ g wx, (∀ j, j < m → wx.cell? ⟨g, 0 + j, none⟩ = some (.bool (N.testBit j))) → g < wx.heap.size → Calls Try.prog 6 #[.int .i64 (t : Int), .slice (some ⟨g, 0, none⟩) m m] wx fun e w' => e = .returned (.tuple #[.agg #[.int .i64 t, .int .u64 (LO (N)), .int .u64 (HI (N))], .int .i64 0]) ∧ Below wx.heap.size wx w')) (w : World) (hl : Br w a l) (hn : n = l.length) (hm : n ≤ 200) :
    Calls Try.prog 3 #[.int .i64 s, .slice a n c, .agg #[.int .i64 (t : Int), .int .u64 (LO N), .int .u64 (HI N)]] w fun e w' => e = .returned (.bool true) ∧ Below w.heap.size w w' := by
  have hqe := eq_own
  have hm9 : ¬ 200 < (n : Int) := by omega
  have HL : Hid (Br w a l) := hl
  have HN : Hid (n = l.length) := hn
  have HIS : Hid (∀ wx, Calls Try.prog 7 #[.int .i64 s] wx fun e w' => e = .returned (.bool true) ∧ Below wx.heap.size wx w') := fun wx => (refIs_any s wx).mono fun e w' h => ⟨by rw [← hs]; exact h.1, h.2 ▸ Below.refl _ _⟩
  have hm10 : n ≤ 1000 := by omega
  clear hl hn hs
  go_enter Try.func3, Try.ntmps3
  go_wp2_with fail
  refine (known_any _).mono ?_
  rintro e w1 ⟨rfl, hb1⟩
  have hb1' := below_step (w := w) (by go_grown) hb1
  have hs1 := hb1'.size
  have KF1 : w1.cell? ⟨w.heap.size, 0, none⟩ = some (.int .i64 (t : Int)) ∧ w1.cell? ⟨w.heap.size, 1, none⟩ = some (.int .u64 (LO N)) ∧ w1.cell? ⟨w.heap.size, 2, none⟩ = some (.int .u64 (HI N)) ∧ (∀ o, w1.frozen? ⟨w.heap.size, o, none⟩ = false) := ⟨keep_cell hb1 (by first | (simp [go_sem]; done)), keep_cell hb1 (by first | (simp [go_sem]; done)), keep_cell hb1 (by first | (simp [go_sem]; done)), keep_frozen2 hb1 (by first | (simp [go_sem]; done)) (by first | (simp [go_sem]; done))⟩; have KF1z0 : w.heap.size < w1.heap.size := World.block_lt_of_cell? _ _ KF1.1
  clear hb1
  go_wp2_with (at_builtin; refine wpList_app_br rfl _ _ rfl rfl a l c n rfl HN.out (HL.out.below hb1') (by have := HN.out; omega) ?_; intro b d wa hbr hba)
  have KFa : wa.cell? ⟨w.heap.size, 0, none⟩ = some (.int .i64 (t : Int)) ∧ wa.cell? ⟨w.heap.size, 1, none⟩ = some (.int .u64 (LO N)) ∧ wa.cell? ⟨w.heap.size, 2, none⟩ = some (.int .u64 (HI N)) ∧ (∀ o, wa.frozen? ⟨w.heap.size, o, none⟩ = false) := ⟨(hba.cell (p := ⟨w.heap.size, 0, none⟩) KF1z0).trans KF1.1, (hba.cell (p := ⟨w.heap.size, 1, none⟩) KF1z0).trans KF1.2.1, (hba.cell (p := ⟨w.heap.size, 2, none⟩) KF1z0).trans KF1.2.2.1, fun o => (hba.frozen (p := ⟨w.heap.size, o, none⟩) KF1z0).trans (KF1.2.2.2 o)⟩
  have hba' : Below w.heap.size w wa := hb1'.trans (hba.mono hs1)
  have hsa := hba'.size
  have KFaz0 : w.heap.size < wa.heap.size := Nat.lt_of_lt_of_le KF1z0 hba.size
  have HBR : Hid (Br wa b l) := hbr
  clear KF1 hba hbr
  go_wp2_with fail
  refine (value_no hv _).mono ?_
  rintro e w2 ⟨rfl, hb2⟩
  have hb2' := below_step (w := w) (by go_grown) hb2
  have hs2 := hb2'.size
  have hx2 : Below wa.heap.size wa w2 := hb2
  have KF2 : w2.cell? ⟨w.heap.size, 0, none⟩ = some (.int .i64 (t : Int)) ∧ w2.cell? ⟨w.heap.size, 1, none⟩ = some (.int .u64 (LO N)) ∧ w2.cell? ⟨w.heap.size, 2, none⟩ = some (.int .u64 (HI N)) ∧ (∀ o, w2.frozen? ⟨w.heap.size, o, none⟩ = false) := ⟨keep_cell hb2 (by first | (simp [go_sem]; done) | (simp [go_sem, KFa]; done) | (simp [go_sem, KFa, World.cell?_alloc_some]; done) | (simp [go_sem, KFa, frozen?_alloc_cells]; done)), keep_cell hb2 (by first | (simp [go_sem]; done) | (simp [go_sem, KFa]; done) | (simp [go_sem, KFa, World.cell?_alloc_some]; done) | (simp [go_sem, KFa, frozen?_alloc_cells]; done)), keep_cell hb2 (by first | (simp [go_sem]; done) | (simp [go_sem, KFa]; done) | (simp [go_sem, KFa, World.cell?_alloc_some]; done) | (simp [go_sem, KFa, frozen?_alloc_cells]; done)), keep_frozen2 hb2 (by first | (simp [go_sem]; done) | (simp [go_sem, KFa]; done) | (simp [go_sem, KFa, World.cell?_alloc_some]; done) | (simp [go_sem, KFa, frozen?_alloc_cells]; done)) (by first | (simp [go_sem]; done) | (simp [go_sem, KFa]; done) | (simp [go_sem, KFa, World.cell?_alloc_some]; done) | (simp [go_sem, KFa, frozen?_alloc_cells]; done))⟩; have KF2z0 : w.heap.size < w2.heap.size := World.block_lt_of_cell? _ _ KF2.1
  clear hb2 KFa
  go_wp2_with fail
  refine (HIS.out _).mono ?_
  rintro e w3 ⟨rfl, hb3⟩
  have hb3' := below_step (w := w) (by go_grown) hb3
  have hs3 := hb3'.size
  have hx3 : Below wa.heap.size wa w3 := (hx2.alloc hx2.size _).trans (hb3.mono (by have := hx2.size; simp; omega))
  have KF3 : w3.cell? ⟨w.heap.size, 0, none⟩ = some (.int .i64 (t : Int)) ∧ w3.cell? ⟨w.heap.size, 1, none⟩ = some (.int .u64 (LO N)) ∧ w3.cell? ⟨w.heap.size, 2, none⟩ = some (.int .u64 (HI N)) ∧ (∀ o, w3.frozen? ⟨w.heap.size, o, none⟩ = false) ∧ w3.cell? ⟨w2.heap.size, 0, none⟩ = some (.int .i64 0) ∧ w3.cell? ⟨w2.heap.size, 1, none⟩ = some (.int .u64 0) ∧ w3.cell? ⟨w2.heap.size, 2, none⟩ = some (.int .u64 0) ∧ (∀ o, w3.frozen? ⟨w2.heap.size, o, none⟩ = false) := ⟨keep_cell hb3 (by first | (simp [go_sem]; done) | (simp [go_sem, KF2]; done) | (simp [go_sem, KF2, World.cell?_alloc_some]; done) | (simp [go_sem, KF2, frozen?_alloc_cells]; done)), keep_cell hb3 (by first | (simp [go_sem]; done) | (simp [go_sem, KF2]; done) | (simp [go_sem, KF2, World.cell?_alloc_some]; done) | (simp [go_sem, KF2, frozen?_alloc_cells]; done)), keep_cell hb3 (by first | (simp [go_sem]; done) | (simp [go_sem, KF2]; done) | (simp [go_sem, KF2, World.cell?_alloc_some]; done) | (simp [go_sem, KF2, frozen?_alloc_cells]; done)), keep_frozen2 hb3 (by first | (simp [go_sem]; done) | (simp [go_sem, KF2]; done) | (simp [go_sem, KF2, World.cell?_alloc_some]; done) | (simp [go_sem, KF2, frozen?_alloc_cells]; done)) (by first | (simp [go_sem]; done) | (simp [go_sem, KF2]; done) | (simp [go_sem, KF2, World.cell?_alloc_some]; done) | (simp [go_sem, KF2, frozen?_alloc_cells]; done)), keep_cell hb3 (by first | (simp [go_sem]; done) | (simp [go_sem, KF2]; done) | (simp [go_sem, KF2, World.cell?_alloc_some]; done) | (simp [go_sem, KF2, frozen?_alloc_cells]; done)), keep_cell hb3 (by first | (simp [go_sem]; done) | (simp [go_sem, KF2]; done) | (simp [go_sem, KF2, World.cell?_alloc_some]; done) | (simp [go_sem, KF2, frozen?_alloc_cells]; done)), keep_cell hb3 (by first | (simp [go_sem]; done) | (simp [go_sem, KF2]; done) | (simp [go_sem, KF2, World.cell?_alloc_some]; done) | (simp [go_sem, KF2, frozen?_alloc_cells]; done)), keep_frozen2 hb3 (by first | (simp [go_sem]; done) | (simp [go_sem, KF2]; done) | (simp [go_sem, KF2, World.cell?_alloc_some]; done) | (simp [go_sem, KF2, frozen?_alloc_cells]; done)) (by first | (simp [go_sem]; done) | (simp [go_sem, KF2]; done) | (simp [go_sem, KF2, World.cell?_alloc_some]; done) | (simp [go_sem, KF2, frozen?_alloc_cells]; done))⟩; have KF3z0 : w.heap.size < w3.heap.size := World.block_lt_of_cell? _ _ KF3.1; have KF3z1 : w2.heap.size < w3.heap.size := World.block_lt_of_cell? _ _ KF3.2.2.2.2.1
  clear hb3 KF2
  go_wp2_with fail
  refine (bools_same (HBR.out.below hx3) (HL.out.below hb3') HN.out hm10).mono ?_
  rintro e w4 ⟨rfl, hb4⟩
  have hb4' := below_step (w := w) (by go_grown) hb4
  have hs4 := hb4'.size
  have KF4 : w4.cell? ⟨w.heap.size, 0, none⟩ = some (.int .i64 (t : Int)) ∧ w4.cell? ⟨w.heap.size, 1, none⟩ = some (.int .u64 (LO N)) ∧ w4.cell? ⟨w.heap.size, 2, none⟩ = some (.int .u64 (HI N)) ∧ (∀ o, w4.frozen? ⟨w.heap.size, o, none⟩ = false) ∧ w4.cell? ⟨w2.heap.size, 0, none⟩ = some (.int .i64 0) ∧ w4.cell? ⟨w2.heap.size, 1, none⟩ = some (.int .u64 0) ∧ w4.cell? ⟨w2.heap.size, 2, none⟩ = some (.int .u64 0) ∧ (∀ o, w4.frozen? ⟨w2.heap.size, o, none⟩ = false) := ⟨keep_cell hb4 (by first | (simp [go_sem]; done) | (simp [go_sem, KF3]; done) | (simp [go_sem, KF3, World.cell?_alloc_some]; done) | (simp [go_sem, KF3, frozen?_alloc_cells]; done)), keep_cell hb4 (by first | (simp [go_sem]; done) | (simp [go_sem, KF3]; done) | (simp [go_sem, KF3, World.cell?_alloc_some]; done) | (simp [go_sem, KF3, frozen?_alloc_cells]; done)), keep_cell hb4 (by first | (simp [go_sem]; done) | (simp [go_sem, KF3]; done) | (simp [go_sem, KF3, World.cell?_alloc_some]; done) | (simp [go_sem, KF3, frozen?_alloc_cells]; done)), keep_frozen2 hb4 (by first | (simp [go_sem]; done) | (simp [go_sem, KF3]; done) | (simp [go_sem, KF3, World.cell?_alloc_some]; done) | (simp [go_sem, KF3, frozen?_alloc_cells]; done)) (by first | (simp [go_sem]; done) | (simp [go_sem, KF3]; done) | (simp [go_sem, KF3, World.cell?_alloc_some]; done) | (simp [go_sem, KF3, frozen?_alloc_cells]; done)), keep_cell hb4 (by first | (simp [go_sem]; done) | (simp [go_sem, KF3]; done) | (simp [go_sem, KF3, World.cell?_alloc_some]; done) | (simp [go_sem, KF3, frozen?_alloc_cells]; done)), keep_cell hb4 (by first | (simp [go_sem]; done) | (simp [go_sem, KF3]; done) | (simp [go_sem, KF3, World.cell?_alloc_some]; done) | (simp [go_sem, KF3, frozen?_alloc_cells]; done)), keep_cell hb4 (by first | (simp [go_sem]; done) | (simp [go_sem, KF3]; done) | (simp [go_sem, KF3, World.cell?_alloc_some]; done) | (simp [go_sem, KF3, frozen?_alloc_cells]; done)), keep_frozen2 hb4 (by first | (simp [go_sem]; done) | (simp [go_sem, KF3]; done) | (simp [go_sem, KF3, World.cell?_alloc_some]; done) | (simp [go_sem, KF3, frozen?_alloc_cells]; done)) (by first | (simp [go_sem]; done) | (simp [go_sem, KF3]; done) | (simp [go_sem, KF3, World.cell?_alloc_some]; done) | (simp [go_sem, KF3, frozen?_alloc_cells]; done))⟩; have KF4z0 : w.heap.size < w4.heap.size := World.block_lt_of_cell? _ _ KF4.1; have KF4z1 : w2.heap.size < w4.heap.size := World.block_lt_of_cell? _ _ KF4.2.2.2.2.1
  clear hb4 KF3
  clear hx2 hx3
  go_wp2_with fail
  go_quiet (fail)
  have hbq : Below w.heap.size w (w4.drewN nq) := ⟨hb4'.os, hb4'.tape, hb4'.output, hb4'.size, hb4'.block⟩
  go_wp2_with fail
  refine (HB.out _).mono ?_
  rintro e w5 ⟨g, rfl, hB, hb5⟩
  have hb5' := below_step (w := w) (by go_grown) hb5
  have hs5 := hb5'.size
  have HG : Hid (∀ j, j < m → w5.cell? ⟨g, 0 + j, none⟩ = some (.bool (N.testBit j))) := (fun j hj => by rw [Nat.zero_add]; exact Bs.cell hB (bl_len m N).symm (bl_get hj)); have hgl := (Bs.lt hB).2; have hx5 := Below.refl w5.heap.size w5; clear hB
  have KF5 : w5.cell? ⟨w.heap.size, 0, none⟩ = some (.int .i64 (t : Int)) ∧ w5.cell? ⟨w.heap.size, 1, none⟩ = some (.int .u64 (LO N)) ∧ w5.cell? ⟨w.heap.size, 2, none⟩ = some (.int .u64 (HI N)) ∧ (∀ o, w5.frozen? ⟨w.heap.size, o, none⟩ = false) ∧ w5.cell? ⟨w2.heap.size, 0, none⟩ = some (.int .i64 0) ∧ w5.cell? ⟨w2.heap.size, 1, none⟩ = some (.int .u64 0) ∧ w5.cell? ⟨w2.heap.size, 2, none⟩ = some (.int .u64 0) ∧ (∀ o, w5.frozen? ⟨w2.heap.size, o, none⟩ = false) := ⟨keep_cell hb5 (by first | (simp [go_sem]; done) | (simp [go_sem, KF4]; done) | (simp [go_sem, KF4, World.cell?_alloc_some]; done) | (simp [go_sem, KF4, frozen?_alloc_cells]; done)), keep_cell hb5 (by first | (simp [go_sem]; done) | (simp [go_sem, KF4]; done) | (simp [go_sem, KF4, World.cell?_alloc_some]; done) | (simp [go_sem, KF4, frozen?_alloc_cells]; done)), keep_cell hb5 (by first | (simp [go_sem]; done) | (simp [go_sem, KF4]; done) | (simp [go_sem, KF4, World.cell?_alloc_some]; done) | (simp [go_sem, KF4, frozen?_alloc_cells]; done)), keep_frozen2 hb5 (by first | (simp [go_sem]; done) | (simp [go_sem, KF4]; done) | (simp [go_sem, KF4, World.cell?_alloc_some]; done) | (simp [go_sem, KF4, frozen?_alloc_cells]; done)) (by first | (simp [go_sem]; done) | (simp [go_sem, KF4]; done) | (simp [go_sem, KF4, World.cell?_alloc_some]; done) | (simp [go_sem, KF4, frozen?_alloc_cells]; done)), keep_cell hb5 (by first | (simp [go_sem]; done) | (simp [go_sem, KF4]; done) | (simp [go_sem, KF4, World.cell?_alloc_some]; done) | (simp [go_sem, KF4, frozen?_alloc_cells]; done)), keep_cell hb5 (by first | (simp [go_sem]; done) | (simp [go_sem, KF4]; done) | (simp [go_sem, KF4, World.cell?_alloc_some]; done) | (simp [go_sem, KF4, frozen?_alloc_cells]; done)), keep_cell hb5 (by first | (simp [go_sem]; done) | (simp [go_sem, KF4]; done) | (simp [go_sem, KF4, World.cell?_alloc_some]; done) | (simp [go_sem, KF4, frozen?_alloc_cells]; done)), keep_frozen2 hb5 (by first | (simp [go_sem]; done) | (simp [go_sem, KF4]; done) | (simp [go_sem, KF4, World.cell?_alloc_some]; done) | (simp [go_sem, KF4, frozen?_alloc_cells]; done)) (by first | (simp [go_sem]; done) | (simp [go_sem, KF4]; done) | (simp [go_sem, KF4, World.cell?_alloc_some]; done) | (simp [go_sem, KF4, frozen?_alloc_cells]; done))⟩; have KF5z0 : w.heap.size < w5.heap.size := World.block_lt_of_cell? _ _ KF5.1; have KF5z1 : w2.heap.size < w5.heap.size := World.block_lt_of_cell? _ _ KF5.2.2.2.2.1
  clear hb5 KF4
  go_wp2_with fail
  refine (HR.out _).mono ?_
  rintro e w6 ⟨rfl, hb6⟩
  have hb6' := below_step (w := w) (by go_grown) hb6
  have hs6 := hb6'.size
  have hx6 : Below w5.heap.size w5 w6 := hb6; have hgl6 : g < w6.heap.size := Nat.lt_of_lt_of_le hgl hb6.size
  have KF6 : w6.cell? ⟨w.heap.size, 0, none⟩ = some (.int .i64 (t : Int)) ∧ w6.cell? ⟨w.heap.size, 1, none⟩ = some (.int .u64 (LO N)) ∧ w6.cell? ⟨w.heap.size, 2, none⟩ = some (.int .u64 (HI N)) ∧ (∀ o, w6.frozen? ⟨w.heap.size, o, none⟩ = false) ∧ w6.cell? ⟨w2.heap.size, 0, none⟩ = some (.int .i64 0) ∧ w6.cell? ⟨w2.heap.size, 1, none⟩ = some (.int .u64 0) ∧ w6.cell? ⟨w2.heap.size, 2, none⟩ = some (.int .u64 0) ∧ (∀ o, w6.frozen? ⟨w2.heap.size, o, none⟩ = false) := ⟨keep_cell hb6 (by first | (simp [go_sem]; done) | (simp [go_sem, KF5]; done) | (simp [go_sem, KF5, World.cell?_alloc_some]; done) | (simp [go_sem, KF5, frozen?_alloc_cells]; done)), keep_cell hb6 (by first | (simp [go_sem]; done) | (simp [go_sem, KF5]; done) | (simp [go_sem, KF5, World.cell?_alloc_some]; done) | (simp [go_sem, KF5, frozen?_alloc_cells]; done)), keep_cell hb6 (by first | (simp [go_sem]; done) | (simp [go_sem, KF5]; done) | (simp [go_sem, KF5, World.cell?_alloc_some]; done) | (simp [go_sem, KF5, frozen?_alloc_cells]; done)), keep_frozen2 hb6 (by first | (simp [go_sem]; done) | (simp [go_sem, KF5]; done) | (simp [go_sem, KF5, World.cell?_alloc_some]; done) | (simp [go_sem, KF5, frozen?_alloc_cells]; done)) (by first | (simp [go_sem]; done) | (simp [go_sem, KF5]; done) | (simp [go_sem, KF5, World.cell?_alloc_some]; done) | (simp [go_sem, KF5, frozen?_alloc_cells]; done)), keep_cell hb6 (by first | (simp [go_sem]; done) | (simp [go_sem, KF5]; done) | (simp [go_sem, KF5, World.cell?_alloc_some]; done) | (simp [go_sem, KF5, frozen?_alloc_cells]; done)), keep_cell hb6 (by first | (simp [go_sem]; done) | (simp [go_sem, KF5]; done) | (simp [go_sem, KF5, World.cell?_alloc_some]; done) | (simp [go_sem, KF5, frozen?_alloc_cells]; done)), keep_cell hb6 (by first | (simp [go_sem]; done) | (simp [go_sem, KF5]; done) | (simp [go_sem, KF5, World.cell?_alloc_some]; done) | (simp [go_sem, KF5, frozen?_alloc_cells]; done)), keep_frozen2 hb6 (by first | (simp [go_sem]; done) | (simp [go_sem, KF5]; done) | (simp [go_sem, KF5, World.cell?_alloc_some]; done) | (simp [go_sem, KF5, frozen?_alloc_cells]; done)) (by first | (simp [go_sem]; done) | (simp [go_sem, KF5]; done) | (simp [go_sem, KF5, World.cell?_alloc_some]; done) | (simp [go_sem, KF5, frozen?_alloc_cells]; done))⟩; have KF6z0 : w.heap.size < w6.heap.size := World.block_lt_of_cell? _ _ KF6.1; have KF6z1 : w2.heap.size < w6.heap.size := World.block_lt_of_cell? _ _ KF6.2.2.2.2.1
  clear hb6 KF5
  go_wp2_with fail
  refine (HV.out g w6 (fun j hj => (hx6.cell (p := ⟨g, 0 + j, none⟩) hgl).trans (HG.out j hj)) hgl6).mono ?_
  rintro e w7 ⟨rfl, hb7⟩
  have hb7' := below_step (w := w) (by go_grown) hb7
  have hs7 := hb7'.size
  have KF7 : w7.cell? ⟨w.heap.size, 0, none⟩ = some (.int .i64 (t : Int)) ∧ w7.cell? ⟨w.heap.size, 1, none⟩ = some (.int .u64 (LO N)) ∧ w7.cell? ⟨w.heap.size, 2, none⟩ = some (.int .u64 (HI N)) ∧ (∀ o, w7.frozen? ⟨w.heap.size, o, none⟩ = false) ∧ w7.cell? ⟨w2.heap.size, 0, none⟩ = some (.int .i64 0) ∧ w7.cell? ⟨w2.heap.size, 1, none⟩ = some (.int .u64 0) ∧ w7.cell? ⟨w2.heap.size, 2, none⟩ = some (.int .u64 0) ∧ (∀ o, w7.frozen? ⟨w2.heap.size, o, none⟩ = false) := ⟨keep_cell hb7 (by first | (simp [go_sem]; done) | (simp [go_sem, KF6]; done) | (simp [go_sem, KF6, World.cell?_alloc_some]; done) | (simp [go_sem, KF6, frozen?_alloc_cells]; done)), keep_cell hb7 (by first | (simp [go_sem]; done) | (simp [go_sem, KF6]; done) | (simp [go_sem, KF6, World.cell?_alloc_some]; done) | (simp [go_sem, KF6, frozen?_alloc_cells]; done)), keep_cell hb7 (by first | (simp [go_sem]; done) | (simp [go_sem, KF6]; done) | (simp [go_sem, KF6, World.cell?_alloc_some]; done) | (simp [go_sem, KF6, frozen?_alloc_cells]; done)), keep_frozen2 hb7 (by first | (simp [go_sem]; done) | (simp [go_sem, KF6]; done) | (simp [go_sem, KF6, World.cell?_alloc_some]; done) | (simp [go_sem, KF6, frozen?_alloc_cells]; done)) (by first | (simp [go_sem]; done) | (simp [go_sem, KF6]; done) | (simp [go_sem, KF6, World.cell?_alloc_some]; done) | (simp [go_sem, KF6, frozen?_alloc_cells]; done)), keep_cell hb7 (by first | (simp [go_sem]; done) | (simp [go_sem, KF6]; done) | (simp [go_sem, KF6, World.cell?_alloc_some]; done) | (simp [go_sem, KF6, frozen?_alloc_cells]; done)), keep_cell hb7 (by first | (simp [go_sem]; done) | (simp [go_sem, KF6]; done) | (simp [go_sem, KF6, World.cell?_alloc_some]; done) | (simp [go_sem, KF6, frozen?_alloc_cells]; done)), keep_cell hb7 (by first | (simp [go_sem]; done) | (simp [go_sem, KF6]; done) | (simp [go_sem, KF6, World.cell?_alloc_some]; done) | (simp [go_sem, KF6, frozen?_alloc_cells]; done)), keep_frozen2 hb7 (by first | (simp [go_sem]; done) | (simp [go_sem, KF6]; done) | (simp [go_sem, KF6, World.cell?_alloc_some]; done) | (simp [go_sem, KF6, frozen?_alloc_cells]; done)) (by first | (simp [go_sem]; done) | (simp [go_sem, KF6]; done) | (simp [go_sem, KF6, World.cell?_alloc_some]; done) | (simp [go_sem, KF6, frozen?_alloc_cells]; done))⟩; have KF7z0 : w.heap.size < w7.heap.size := World.block_lt_of_cell? _ _ KF7.1; have KF7z1 : w2.heap.size < w7.heap.size := World.block_lt_of_cell? _ _ KF7.2.2.2.2.1
  clear hb7 KF6
  clear hx6 hgl6 hgl HG
  go_wp2_with fail
  all_goals first | (exfalso; omega) | (go_ret; exact ⟨rfl, by go_grown⟩)

set_option maxRecDepth 100000 in
set_option maxHeartbeats 1200000 in
theorem walk_no3_f {A lo hi s : Int} {l : List Bool} {a : Option Addr} {n c : Nat} (hv : ((n : Int) != bos 0) = true) (hne : ((n : Int) == 1) = false) (hs : srt 0 = true) (HB : Hid (∀ wx, Calls Try.prog 11 #[.agg #[.int .i64 A, .int .u64 lo, .int .u64 hi]] wx fun e w' => e = .returned (.slice none 0 0) ∧ Below wx.heap.size wx w')) (HR : Hid (∀ wx, Calls Try.prog 12 #[.agg #[.int .i64 A, .int .u64 lo, .int .u64 hi]] wx fun e w' => e = .returned (.bool false) ∧ Below wx.heap.size wx w')) (w : World) (hl : Br w a l) (hn : n = l.length) (hm : n ≤ 200) :
    Calls Try.prog 3 #[.int .i64 0, .slice a n c, .agg #[.int .i64 A, .int .u64 lo, .int .u64 hi]] w fun e w' => e = .returned (.bool true) ∧ Below w.heap.size w w' := by
  have hm9 : ¬ 200 < (n : Int) := by omega
  have HL : Hid (Br w a l) := hl
  have HN : Hid (n = l.length) := hn
  have HIS : Hid (∀ wx, Calls Try.prog 7 #[.int .i64 0] wx fun e w' => e = .returned (.bool true) ∧ Below wx.heap.size wx w') := fun wx => (refIs_any 0 wx).mono fun e w' h => ⟨by rw [← hs]; exact h.1, h.2 ▸ Below.refl _ _⟩
  have hm10 : n ≤ 1000 := by omega
  clear hl hn hs
  go_enter Try.func3, Try.ntmps3
  go_wp2_with fail
  refine (known_any _).mono ?_
  rintro e w1 ⟨rfl, hb1⟩
  have hb1' := below_step (w := w) (by go_grown) hb1
  have hs1 := hb1'.size
  have KF1 : w1.cell? ⟨w.heap.size, 0, none⟩ = some (.int .i64 A) ∧ w1.cell? ⟨w.heap.size, 1, none⟩ = some (.int .u64 lo) ∧ w1.cell? ⟨w.heap.size, 2, none⟩ = some (.int .u64 hi) ∧ (∀ o, w1.frozen? ⟨w.heap.size, o, none⟩ = false) := ⟨keep_cell hb1 (by first | (simp [go_sem]; done)), keep_cell hb1 (by first | (simp [go_sem]; done)), keep_cell hb1 (by first | (simp [go_sem]; done)), keep_frozen2 hb1 (by first | (simp [go_sem]; done)) (by first | (simp [go_sem]; done))⟩; have KF1z0 : w.heap.size < w1.heap.size := World.block_lt_of_cell? _ _ KF1.1
  clear hb1
  go_wp2_with (at_builtin; refine wpList_app_br rfl _ _ rfl rfl a l c n rfl HN.out (HL.out.below hb1') (by have := HN.out; omega) ?_; intro b d wa hbr hba)
  have KFa : wa.cell? ⟨w.heap.size, 0, none⟩ = some (.int .i64 A) ∧ wa.cell? ⟨w.heap.size, 1, none⟩ = some (.int .u64 lo) ∧ wa.cell? ⟨w.heap.size, 2, none⟩ = some (.int .u64 hi) ∧ (∀ o, wa.frozen? ⟨w.heap.size, o, none⟩ = false) := ⟨(hba.cell (p := ⟨w.heap.size, 0, none⟩) KF1z0).trans KF1.1, (hba.cell (p := ⟨w.heap.size, 1, none⟩) KF1z0).trans KF1.2.1, (hba.cell (p := ⟨w.heap.size, 2, none⟩) KF1z0).trans KF1.2.2.1, fun o => (hba.frozen (p := ⟨w.heap.size, o, none⟩) KF1z0).trans (KF1.2.2.2 o)⟩
  have hba' : Below w.heap.size w wa := hb1'.trans (hba.mono hs1)
  have hsa := hba'.size
  have KFaz0 : w.heap.size < wa.heap.size := Nat.lt_of_lt_of_le KF1z0 hba.size
  have HBR : Hid (Br wa b l) := hbr
  clear KF1 hba hbr
  go_wp2_with fail
  refine (value_no hv _).mono ?_
  rintro e w2 ⟨rfl, hb2⟩
  have hb2' := below_step (w := w) (by go_grown) hb2
  have hs2 := hb2'.size
  have hx2 : Below wa.heap.size wa w2 := hb2
  have KF2 : w2.cell? ⟨w.heap.size, 0, none⟩ = some (.int .i64 A) ∧ w2.cell? ⟨w.heap.size, 1, none⟩ = some (.int .u64 lo) ∧ w2.cell? ⟨w.heap.size, 2, none⟩ = some (.int .u64 hi) ∧ (∀ o, w2.frozen? ⟨w.heap.size, o, none⟩ = false) := ⟨keep_cell hb2 (by first | (simp [go_sem]; done) | (simp [go_sem, KFa]; done) | (simp [go_sem, KFa, World.cell?_alloc_some]; done) | (simp [go_sem, KFa, frozen?_alloc_cells]; done)), keep_cell hb2 (by first | (simp [go_sem]; done) | (simp [go_sem, KFa]; done) | (simp [go_sem, KFa, World.cell?_alloc_some]; done) | (simp [go_sem, KFa, frozen?_alloc_cells]; done)), keep_cell hb2 (by first | (simp [go_sem]; done) | (simp [go_sem, KFa]; done) | (simp [go_sem, KFa, World.cell?_alloc_some]; done) | (simp [go_sem, KFa, frozen?_alloc_cells]; done)), keep_frozen2 hb2 (by first | (simp [go_sem]; done) | (simp [go_sem, KFa]; done) | (simp [go_sem, KFa, World.cell?_alloc_some]; done) | (simp [go_sem, KFa, frozen?_alloc_cells]; done)) (by first | (simp [go_sem]; done) | (simp [go_sem, KFa]; done) | (simp [go_sem, KFa, World.cell?_alloc_some]; done) | (simp [go_sem, KFa, frozen?_alloc_cells]; done))⟩; have KF2z0 : w.heap.size < w2.heap.size := World.block_lt_of_cell? _ _ KF2.1
  clear hb2 KFa
  go_wp2_with fail
  refine (HIS.out _).mono ?_
  rintro e w3 ⟨rfl, hb3⟩
  have hb3' := below_step (w := w) (by go_grown) hb3
  have hs3 := hb3'.size
  have hx3 : Below wa.heap.size wa w3 := (hx2.alloc hx2.size _).trans (hb3.mono (by have := hx2.size; simp; omega))
  have KF3 : w3.cell? ⟨w.heap.size, 0, none⟩ = some (.int .i64 A) ∧ w3.cell? ⟨w.heap.size, 1, none⟩ = some (.int .u64 lo) ∧ w3.cell? ⟨w.heap.size, 2, none⟩ = some (.int .u64 hi) ∧ (∀ o, w3.frozen? ⟨w.heap.size, o, none⟩ = false) ∧ w3.cell? ⟨w2.heap.size, 0, none⟩ = some (.int .i64 0) ∧ w3.cell? ⟨w2.heap.size, 1, none⟩ = some (.int .u64 0) ∧ w3.cell? ⟨w2.heap.size, 2, none⟩ = some (.int .u64 0) ∧ (∀ o, w3.frozen? ⟨w2.heap.size, o, none⟩ = false) := ⟨keep_cell hb3 (by first | (simp [go_sem]; done) | (simp [go_sem, KF2]; done) | (simp [go_sem, KF2, World.cell?_alloc_some]; done) | (simp [go_sem, KF2, frozen?_alloc_cells]; done)), keep_cell hb3 (by first | (simp [go_sem]; done) | (simp [go_sem, KF2]; done) | (simp [go_sem, KF2, World.cell?_alloc_some]; done) | (simp [go_sem, KF2, frozen?_alloc_cells]; done)), keep_cell hb3 (by first | (simp [go_sem]; done) | (simp [go_sem, KF2]; done) | (simp [go_sem, KF2, World.cell?_alloc_some]; done) | (simp [go_sem, KF2, frozen?_alloc_cells]; done)), keep_frozen2 hb3 (by first | (simp [go_sem]; done) | (simp [go_sem, KF2]; done) | (simp [go_sem, KF2, World.cell?_alloc_some]; done) | (simp [go_sem, KF2, frozen?_alloc_cells]; done)) (by first | (simp [go_sem]; done) | (simp [go_sem, KF2]; done) | (simp [go_sem, KF2, World.cell?_alloc_some]; done) | (simp [go_sem, KF2, frozen?_alloc_cells]; done)), keep_cell hb3 (by first | (simp [go_sem]; done) | (simp [go_sem, KF2]; done) | (simp [go_sem, KF2, World.cell?_alloc_some]; done) | (simp [go_sem, KF2, frozen?_alloc_cells]; done)), keep_cell hb3 (by first | (simp [go_sem]; done) | (simp [go_sem, KF2]; done) | (simp [go_sem, KF2, World.cell?_alloc_some]; done) | (simp [go_sem, KF2, frozen?_alloc_cells]; done)), keep_cell hb3 (by first | (simp [go_sem]; done) | (simp [go_sem, KF2]; done) | (simp [go_sem, KF2, World.cell?_alloc_some]; done) | (simp [go_sem, KF2, frozen?_alloc_cells]; done)), keep_frozen2 hb3 (by first | (simp [go_sem]; done) | (simp [go_sem, KF2]; done) | (simp [go_sem, KF2, World.cell?_alloc_some]; done) | (simp [go_sem, KF2, frozen?_alloc_cells]; done)) (by first | (simp [go_sem]; done) | (simp [go_sem, KF2]; done) | (simp [go_sem, KF2, World.cell?_alloc_some]; done) | (simp [go_sem, KF2, frozen?_alloc_cells]; done))⟩; have KF3z0 : w.heap.size < w3.heap.size := World.block_lt_of_cell? _ _ KF3.1; have KF3z1 : w2.heap.size < w3.heap.size := World.block_lt_of_cell? _ _ KF3.2.2.2.2.1
  clear hb3 KF2
  go_wp2_with fail
  refine (bools_same (HBR.out.below hx3) (HL.out.below hb3') HN.out hm10).mono ?_
  rintro e w4 ⟨rfl, hb4⟩
  have hb4' := below_step (w := w) (by go_grown) hb4
  have hs4 := hb4'.size
  have KF4 : w4.cell? ⟨w.heap.size, 0, none⟩ = some (.int .i64 A) ∧ w4.cell? ⟨w.heap.size, 1, none⟩ = some (.int .u64 lo) ∧ w4.cell? ⟨w.heap.size, 2, none⟩ = some (.int .u64 hi) ∧ (∀ o, w4.frozen? ⟨w.heap.size, o, none⟩ = false) ∧ w4.cell? ⟨w2.heap.size, 0, none⟩ = some (.int .i64 0) ∧ w4.cell? ⟨w2.heap.size, 1, none⟩ = some (.int .u64 0) ∧ w4.cell? ⟨w2.heap.size, 2, none⟩ = some (.int .u64 0) ∧ (∀ o, w4.frozen? ⟨w2.heap.size, o, none⟩ = false) := ⟨keep_cell hb4 (by first | (simp [go_sem]; done) | (simp [go_sem, KF3]; done) | (simp [go_sem, KF3, World.cell?_alloc_some]; done) | (simp [go_sem, KF3, frozen?_alloc_cells]; done)), keep_cell hb4 (by first | (simp [go_sem]; done) | (simp [go_sem, KF3]; done) | (simp [go_sem, KF3, World.cell?_alloc_some]; done) | (simp [go_sem, KF3, frozen?_alloc_cells]; done)), keep_cell hb4 (by first | (simp [go_sem]; done) | (simp [go_sem, KF3]; done) | (simp [go_sem, KF3, World.cell?_alloc_some]; done) | (simp [go_sem, KF3, frozen?_alloc_cells]; done)), keep_frozen2 hb4 (by first | (simp [go_sem]; done) | (simp [go_sem, KF3]; done) | (simp [go_sem, KF3, World.cell?_alloc_some]; done) | (simp [go_sem, KF3, frozen?_alloc_cells]; done)) (by first | (simp [go_sem]; done) | (simp [go_sem, KF3]; done) | (simp [go_sem, KF3, World.cell?_alloc_some]; done) | (simp [go_sem, KF3, frozen?_alloc_cells]; done)), keep_cell hb4 (by first | (simp [go_sem]; done) | (simp [go_sem, KF3]; done) | (simp [go_sem, KF3, World.cell?_alloc_some]; done) | (simp [go_sem, KF3, frozen?_alloc_cells]; done)), keep_cell hb4 (by first | (simp [go_sem]; done) | (simp [go_sem, KF3]; done) | (simp [go_sem, KF3, World.cell?_alloc_some]; done) | (simp [go_sem, KF3, frozen?_alloc_cells]; done)), keep_cell hb4 (by first | (simp [go_sem]; done) | (simp [go_sem, KF3]; done) | (simp [go_sem, KF3, World.cell?_alloc_some]; done) | (simp [go_sem, KF3, frozen?_alloc_cells]; done)), keep_frozen2 hb4 (by first | (simp [go_sem]; done) | (simp [go_sem, KF3]; done) | (simp [go_sem, KF3, World.cell?_alloc_some]; done) | (simp [go_sem, KF3, frozen?_alloc_cells]; done)) (by first | (simp [go_sem]; done) | (simp [go_sem, KF3]; done) | (simp [go_sem, KF3, World.cell?_alloc_some]; done) | (simp [go_sem, KF3, frozen?_alloc_cells]; done))⟩; have KF4z0 : w.heap.size < w4.heap.size := World.block_lt_of_cell? _ _ KF4.1; have KF4z1 : w2.heap.size < w4.heap.size := World.block_lt_of_cell? _ _ KF4.2.2.2.2.1
  clear hb4 KF3
  clear hx2 hx3
  go_wp2_with fail
  go_quiet (fail)
  have hbq : Below w.heap.size w (w4.drewN nq) := ⟨hb4'.os, hb4'.tape, hb4'.output, hb4'.size, hb4'.block⟩
  go_wp2_with fail
  refine (HB.out _).mono ?_
  rintro e w5 ⟨rfl, hb5⟩
  have hb5' := below_step (w := w) (by go_grown) hb5
  have hs5 := hb5'.size
  have KF5 : w5.cell? ⟨w.heap.size, 0, none⟩ = some (.int .i64 A) ∧ w5.cell? ⟨w.heap.size, 1, none⟩ = some (.int .u64 lo) ∧ w5.cell? ⟨w.heap.size, 2, none⟩ = some (.int .u64 hi) ∧ (∀ o, w5.frozen? ⟨w.heap.size, o, none⟩ = false) ∧ w5.cell? ⟨w2.heap.size, 0, none⟩ = some (.int .i64 0) ∧ w5.cell? ⟨w2.heap.size, 1, none⟩ = some (.int .u64 0) ∧ w5.cell? ⟨w2.heap.size, 2, none⟩ = some (.int .u64 0) ∧ (∀ o, w5.frozen? ⟨w2.heap.size, o, none⟩ = false) := ⟨keep_cell hb5 (by first | (simp [go_sem]; done) | (simp [go_sem, KF4]; done) | (simp [go_sem, KF4, World.cell?_alloc_some]; done) | (simp [go_sem, KF4, frozen?_alloc_cells]; done)), keep_cell hb5 (by first | (simp [go_sem]; done) | (simp [go_sem, KF4]; done) | (simp [go_sem, KF4, World.cell?_alloc_some]; done) | (simp [go_sem, KF4, frozen?_alloc_cells]; done)), keep_cell hb5 (by first | (simp [go_sem]; done) | (simp [go_sem, KF4]; done) | (simp [go_sem, KF4, World.cell?_alloc_some]; done) | (simp [go_sem, KF4, frozen?_alloc_cells]; done)), keep_frozen2 hb5 (by first | (simp [go_sem]; done) | (simp [go_sem, KF4]; done) | (simp [go_sem, KF4, World.cell?_alloc_some]; done) | (simp [go_sem, KF4, frozen?_alloc_cells]; done)) (by first | (simp [go_sem]; done) | (simp [go_sem, KF4]; done) | (simp [go_sem, KF4, World.cell?_alloc_some]; done) | (simp [go_sem, KF4, frozen?_alloc_cells]; done)), keep_cell hb5 (by first | (simp [go_sem]; done) | (simp [go_sem, KF4]; done) | (simp [go_sem, KF4, World.cell?_alloc_some]; done) | (simp [go_sem, KF4, frozen?_alloc_cells]; done)), keep_cell hb5 (by first | (simp [go_sem]; done) | (simp [go_sem, KF4]; done) | (simp [go_sem, KF4, World.cell?_alloc_some]; done) | (simp [go_sem, KF4, frozen?_alloc_cells]; done)), keep_cell hb5 (by first | (simp [go_sem]; done) | (simp [go_sem, KF4]; done) | (simp [go_sem, KF4, World.cell?_alloc_some]; done) | (simp [go_sem, KF4, frozen?_alloc_cells]; done)), keep_frozen2 hb5 (by first | (simp [go_sem]; done) | (simp [go_sem, KF4]; done) | (simp [go_sem, KF4, World.cell?_alloc_some]; done) | (simp [go_sem, KF4, frozen?_alloc_cells]; done)) (by first | (simp [go_sem]; done) | (simp [go_sem, KF4]; done) | (simp [go_sem, KF4, World.cell?_alloc_some]; done) | (simp [go_sem, KF4, frozen?_alloc_cells]; done))⟩; have KF5z0 : w.heap.size < w5.heap.size := World.block_lt_of_cell? _ _ KF5.1; have KF5z1 : w2.heap.size < w5.heap.size := World.block_lt_of_cell? _ _ KF5.2.2.2.2.1
  clear hb5 KF4
  go_wp2_with fail
  refine (HR.out _).mono ?_
  rintro e w6 ⟨rfl, hb6⟩
  have hb6' := below_step (w := w) (by go_grown) hb6
  have hs6 := hb6'.size
  have KF6 : w6.cell? ⟨w.heap.size, 0, none⟩ = some (.int .i64 A) ∧ w6.cell? ⟨w.heap.size, 1, none⟩ = some (.int .u64 lo) ∧ w6.cell? ⟨w.heap.size, 2, none⟩ = some (.int .u64 hi) ∧ (∀ o, w6.frozen? ⟨w.heap.size, o, none⟩ = false) ∧ w6.cell? ⟨w2.heap.size, 0, none⟩ = some (.int .i64 0) ∧ w6.cell? ⟨w2.heap.size, 1, none⟩ = some (.int .u64 0) ∧ w6.cell? ⟨w2.heap.size, 2, none⟩ = some (.int .u64 0) ∧ (∀ o, w6.frozen? ⟨w2.heap.size, o, none⟩ = false) := ⟨keep_cell hb6 (by first | (simp [go_sem]; done) | (simp [go_sem, KF5]; done) | (simp [go_sem, KF5, World.cell?_alloc_some]; done) | (simp [go_sem, KF5, frozen?_alloc_cells]; done)), keep_cell hb6 (by first | (simp [go_sem]; done) | (simp [go_sem, KF5]; done) | (simp [go_sem, KF5, World.cell?_alloc_some]; done) | (simp [go_sem, KF5, frozen?_alloc_cells]; done)), keep_cell hb6 (by first | (simp [go_sem]; done) | (simp [go_sem, KF5]; done) | (simp [go_sem, KF5, World.cell?_alloc_some]; done) | (simp [go_sem, KF5, frozen?_alloc_cells]; done)), keep_frozen2 hb6 (by first | (simp [go_sem]; done) | (simp [go_sem, KF5]; done) | (simp [go_sem, KF5, World.cell?_alloc_some]; done) | (simp [go_sem, KF5, frozen?_alloc_cells]; done)) (by first | (simp [go_sem]; done) | (simp [go_sem, KF5]; done) | (simp [go_sem, KF5, World.cell?_alloc_some]; done) | (simp [go_sem, KF5, frozen?_alloc_cells]; done)), keep_cell hb6 (by first | (simp [go_sem]; done) | (simp [go_sem, KF5]; done) | (simp [go_sem, KF5, World.cell?_alloc_some]; done) | (simp [go_sem, KF5, frozen?_alloc_cells]; done)), keep_cell hb6 (by first | (simp [go_sem]; done) | (simp [go_sem, KF5]; done) | (simp [go_sem, KF5, World.cell?_alloc_some]; done) | (simp [go_sem, KF5, frozen?_alloc_cells]; done)), keep_cell hb6 (by first | (simp [go_sem]; done) | (simp [go_sem, KF5]; done) | (simp [go_sem, KF5, World.cell?_alloc_some]; done) | (simp [go_sem, KF5, frozen?_alloc_cells]; done)), keep_frozen2 hb6 (by first | (simp [go_sem]; done) | (simp [go_sem, KF5]; done) | (simp [go_sem, KF5, World.cell?_alloc_some]; done) | (simp [go_sem, KF5, frozen?_alloc_cells]; done)) (by first | (simp [go_sem]; done) | (simp [go_sem, KF5]; done) | (simp [go_sem, KF5, World.cell?_alloc_some]; done) | (simp [go_sem, KF5, frozen?_alloc_cells]; done))⟩; have KF6z0 : w.heap.size < w6.heap.size := World.block_lt_of_cell? _ _ KF6.1; have KF6z1 : w2.heap.size < w6.heap.size := World.block_lt_of_cell? _ _ KF6.2.2.2.2.1
  clear hb6 KF5
  go_wp2_with fail
  go_ret
  exact ⟨rfl, by go_grown⟩

set_option maxRecDepth 100000 in
set_option maxHeartbeats 1200000 in
theorem walk_no3_t {t N m : Nat} {s : Int} {l : List Bool} {a : Option Addr} {n c : Nat} (hv : ((n : Int) != bos 0) = true) (hne : ((n : Int) == 1) = false) (hs : srt 0 = true) (hmt : (m : Int) = max (t : Int) 1) (HB : Hid (∀ wx, Calls Try.prog 11 #[.agg #[.int .i64 t, .int .u64 (LO (N)), .int .u64 (HI (N))]] wx fun e w' => ∃ g, e = .returned (.slice (some ⟨g, 0, none⟩) m m) ∧ Bs w' wx.heap.size (.slice (some ⟨g, 0, none⟩) m m) (bl m N) ∧ Below wx.heap.size wx w')) (HR : Hid (∀ wx, Calls Try.prog 12 #[.agg #[.int .i64 t, .int .u64 (LO (N)), .int .u64 (HI (N))]] wx fun e w' => e = .returned (.bool true) ∧ Below wx.heap.size wx w')) (HV : Hid (∀ g wx, (∀ j, j < m → wx.cell? ⟨g, 0 + j, none⟩ = some (.bool (N.testBit j))) → g < wx.heap.size → Calls Try.prog 6 #[.int .i64 (t : Int), .slice (some ⟨g, 0, none⟩) m m] wx fun e w' => e = .returned (.tuple #[.agg #[.int .i64 t, .int .u64 (LO (N)), .int .u64 (HI (N))], .int .i64 0]) ∧ Below wx.heap.size wx w')) (w : World) (hl : Br w a l) (hn : n = l.length) (hm : n ≤ 200) :
    Calls Try.prog 3 #[.int .i64 0, .slice a n c, .agg #[.int .i64 (t : Int), .int .u64 (LO N), .int .u64 (HI N)]] w fun e w' => e = .returned (.bool true) ∧ Below w.heap.size w w' := by
  have hqe := eq_own
  have hm9 : ¬ 200 < (n : Int) := by omega
  have HL : Hid (Br w a l) := hl
  have HN : Hid (n = l.length) := hn
  have HIS : Hid (∀ wx, Calls Try.prog 7 #[.int .i64 0] wx fun e w' => e = .returned (.bool true) ∧ Below wx.heap.size wx w') := fun wx => (refIs_any 0 wx).mono fun e w' h => ⟨by rw [← hs]; exact h.1, h.2 ▸ Below.refl _ _⟩
  have hm10 : n ≤ 1000 := by omega
  clear hl hn hs
  go_enter Try.func3, Try.ntmps3
  go_wp2_with fail
  refine (known_any _).mono ?_
  rintro e w1 ⟨rfl, hb1⟩
  have hb1' := below_step (w := w) (by go_grown) hb1
  have hs1 := hb1'.size
  have KF1 : w1.cell? ⟨w.heap.size, 0, none⟩ = some (.int .i64 (t : Int)) ∧ w1.cell? ⟨w.heap.size, 1, none⟩ = some (.int .u64 (LO N)) ∧ w1.cell? ⟨w.heap.size, 2, none⟩ = some (.int .u64 (HI N)) ∧ (∀ o, w1.frozen? ⟨w.heap.size, o, none⟩ = false) := ⟨keep_cell hb1 (by first | (simp [go_sem]; done)), keep_cell hb1 (by first | (simp [go_sem]; done)), keep_cell hb1 (by first | (simp [go_sem]; done)), keep_frozen2 hb1 (by first | (simp [go_sem]; done)) (by first | (simp [go_sem]; done))⟩; have KF1z0 : w.heap.size < w1.heap.size := World.block_lt_of_cell? _ _ KF1.1
  clear hb1
  go_wp2_with (at_builtin; refine wpList_app_br rfl _ _ rfl rfl a l c n rfl HN.out (HL.out.below hb1') (by have := HN.out; omega) ?_; intro b d wa hbr hba)
  have KFa : wa.cell? ⟨w.heap.size, 0, none⟩ = some (.int .i64 (t : Int)) ∧ wa.cell? ⟨w.heap.size, 1, none⟩ = some (.int .u64 (LO N)) ∧ wa.cell? ⟨w.heap.size, 2, none⟩ = some (.int .u64 (HI N)) ∧ (∀ o, wa.frozen? ⟨w.heap.size, o, none⟩ = false) := ⟨(hba.cell (p := ⟨w.heap.size, 0, none⟩) KF1z0).trans KF1.1, (hba.cell (p := ⟨w.heap.size, 1, none⟩) KF1z0).trans KF1.2.1, (hba.cell (p := ⟨w.heap.size, 2, none⟩) KF1z0).trans KF1.2.2.1, fun o => (hba.frozen (p := ⟨w.heap.size, o, none⟩) KF1z0).trans (KF1.2.2.2 o)⟩
  have hba' : Below w.heap.size w wa := hb1'.trans (hba.mono hs1)
  have hsa := hba'.size
  have KFaz0 : w.heap.size < wa.heap.size := Nat.lt_of_lt_of_le KF1z0 hba.size
  have HBR : Hid (Br wa b l) := hbr
  clear KF1 hba hbr
  go_wp2_with fail
  refine (value_no hv _).mono ?_
  rintro e w2 ⟨rfl, hb2⟩
  have hb2' := below_step (w := w) (by go_grown) hb2
  have hs2 := hb2'.size
  have hx2 : Below wa.heap.size wa w2 := hb2
  have KF2 : w2.cell? ⟨w.heap.size, 0, none⟩ = some (.int .i64 (t : Int)) ∧ w2.cell? ⟨w.heap.size, 1, none⟩ = some (.int .u64 (LO N)) ∧ w2.cell? ⟨w.heap.size, 2, none⟩ = some (.int .u64 (HI N)) ∧ (∀ o, w2.frozen? ⟨w.heap.size, o, none⟩ = false) := ⟨keep_cell hb2 (by first | (simp [go_sem]; done) | (simp [go_sem, KFa]; done) | (simp [go_sem, KFa, World.cell?_alloc_some]; done) | (simp [go_sem, KFa, frozen?_alloc_cells]; done)), keep_cell hb2 (by first | (simp [go_sem]; done) | (simp [go_sem, KFa]; done) | (simp [go_sem, KFa, World.cell?_alloc_some]; done) | (simp [go_sem, KFa, frozen?_alloc_cells]; done)), keep_cell hb2 (by first | (simp [go_sem]; done) | (simp [go_sem, KFa]; done) | (simp [go_sem, KFa, World.cell?_alloc_some]; done) | (simp [go_sem, KFa, frozen?_alloc_cells]; done)), keep_frozen2 hb2 (by first | (simp [go_sem]; done) | (simp [go_sem, KFa]; done) | (simp [go_sem, KFa, World.cell?_alloc_some]; done) | (simp [go_sem, KFa, frozen?_alloc_cells]; done)) (by first | (simp [go_sem]; done) | (simp [go_sem, KFa]; done) | (simp [go_sem, KFa, World.cell?_alloc_some]; done) | (simp [go_sem, KFa, frozen?_alloc_cells]; done))⟩; have KF2z0 : w.heap.size < w2.heap.size := World.block_lt_of_cell? _ _ KF2.1
  clear hb2 KFa
  go_wp2_with fail
  refine (HIS.out _).mono ?_
  rintro e w3 ⟨rfl, hb3⟩
  have hb3' := below_step (w := w) (by go_grown) hb3
  have hs3 := hb3'.size
  have hx3 : Below wa.heap.size wa w3 := (hx2.alloc hx2.size _).trans (hb3.mono (by have := hx2.size; simp; omega))
  have KF3 : w3.cell? ⟨w.heap.size, 0, none⟩ = some (.int .i64 (t : Int)) ∧ w3.cell? ⟨w.heap.size, 1, none⟩ = some (.int .u64 (LO N)) ∧ w3.cell? ⟨w.heap.size, 2, none⟩ = some (.int .u64 (HI N)) ∧ (∀ o, w3.frozen? ⟨w.heap.size, o, none⟩ = false) ∧ w3.cell? ⟨w2.heap.size, 0, none⟩ = some (.int .i64 0) ∧ w3.cell? ⟨w2.heap.size, 1, none⟩ = some (.int .u64 0) ∧ w3.cell? ⟨w2.heap.size, 2, none⟩ = some (.int .u64 0) ∧ (∀ o, w3.frozen? ⟨w2.heap.size, o, none⟩ = false) := ⟨keep_cell hb3 (by first | (simp [go_sem]; done) | (simp [go_sem, KF2]; done) | (simp [go_sem, KF2, World.cell?_alloc_some]; done) | (simp [go_sem, KF2, frozen?_alloc_cells]; done)), keep_cell hb3 (by first | (simp [go_sem]; done) | (simp [go_sem, KF2]; done) | (simp [go_sem, KF2, World.cell?_alloc_some]; done) | (simp [go_sem, KF2, frozen?_alloc_cells]; done)), keep_cell hb3 (by first | (simp [go_sem]; done) | (simp [go_sem, KF2]; done) | (simp [go_sem, KF2, World.cell?_alloc_some]; done) | (simp [go_sem, KF2, frozen?_alloc_cells]; done)), keep_frozen2 hb3 (by first | (simp [go_sem]; done) | (simp [go_sem, KF2]; done) | (simp [go_sem, KF2, World.cell?_alloc_some]; done) | (simp [go_sem, KF2, frozen?_alloc_cells]; done)) (by first | (simp [go_sem]; done) | (simp [go_sem, KF2]; done) | (simp [go_sem, KF2, World.cell?_alloc_some]; done) | (simp [go_sem, KF2, frozen?_alloc_cells]; done)), keep_cell hb3 (by first | (simp [go_sem]; done) | (simp [go_sem, KF2]; done) | (simp [go_sem, KF2, World.cell?_alloc_some]; done) | (simp [go_sem, KF2, frozen?_alloc_cells]; done)), keep_cell hb3 (by first | (simp [go_sem]; done) | (simp [go_sem, KF2]; done) | (simp [go_sem, KF2, World.cell?_alloc_some]; done) | (simp [go_sem, KF2, frozen?_alloc_cells]; done)), keep_cell hb3 (by first | (simp [go_sem]; done) | (simp [go_sem, KF2]; done) | (simp [go_sem, KF2, World.cell?_alloc_some]; done) | (simp [go_sem, KF2, frozen?_alloc_cells]; done)), keep_frozen2 hb3 (by first | (simp [go_sem]; done) | (simp [go_sem, KF2]; done) | (simp [go_sem, KF2, World.cell?_alloc_some]; done) | (simp [go_sem, KF2, frozen?_alloc_cells]; done)) (by first | (simp [go_sem]; done) | (simp [go_sem, KF2]; done) | (simp [go_sem, KF2, World.cell?_alloc_some]; done) | (simp [go_sem, KF2, frozen?_alloc_cells]; done))⟩; have KF3z0 : w.heap.size < w3.heap.size := World.block_lt_of_cell? _ _ KF3.1; have KF3z1 : w2.heap.size < w3.heap.size := World.block_lt_of_cell? _ _ KF3.2.2.2.2.1
  clear hb3 KF2
  go_wp2_with fail
  refine (bools_same (HBR.out.below hx3) (HL.out.below hb3') HN.out hm10).mono ?_
  rintro e w4 ⟨rfl, hb4⟩
  have hb4' := below_step (w := w) (by go_grown) hb4
  have hs4 := hb4'.size
  have KF4 : w4.cell? ⟨w.heap.size, 0, none⟩ = some (.int .i64 (t : Int)) ∧ w4.cell? ⟨w.heap.size, 1, none⟩ = some (.int .u64 (LO N)) ∧ w4.cell? ⟨w.heap.size, 2, none⟩ = some (.int .u64 (HI N)) ∧ (∀ o, w4.frozen? ⟨w.heap.size, o, none⟩ = false) ∧ w4.cell? ⟨w2.heap.size, 0, none⟩ = some (.int .i64 0) ∧ w4.cell? ⟨w2.heap.size, 1, none⟩ = some (.int .u64 0) ∧ w4.cell? ⟨w2.heap.size, 2, none⟩ = some (.int .u64 0) ∧ (∀ o, w4.frozen? ⟨w2.heap.size, o, none⟩ = false) := ⟨keep_cell hb4 (by first | (simp [go_sem]; done) | (simp [go_sem, KF3]; done) | (simp [go_sem, KF3, World.cell?_alloc_some]; done) | (simp [go_sem, KF3, frozen?_alloc_cells]; done)), keep_cell hb4 (by first | (simp [go_sem]; done) | (simp [go_sem, KF3]; done) | (simp [go_sem, KF3, World.cell?_alloc_some]; done) | (simp [go_sem, KF3, frozen?_alloc_cells]; done)), keep_cell hb4 (by first | (simp [go_sem]; done) | (simp [go_sem, KF3]; done) | (simp [go_sem, KF3, World.cell?_alloc_some]; done) | (simp [go_sem, KF3, frozen?_alloc_cells]; done)), keep_frozen2 hb4 (by first | (simp [go_sem]; done) | (simp [go_sem, KF3]; done) | (simp [go_sem, KF3, World.cell?_alloc_some]; done) | (simp [go_sem, KF3, frozen?_alloc_cells]; done)) (by first | (simp [go_sem]; done) | (simp [go_sem, KF3]; done) | (simp [go_sem, KF3, World.cell?_alloc_some]; done) | (simp [go_sem, KF3, frozen?_alloc_cells]; done)), keep_cell hb4 (by first | (simp [go_sem]; done) | (simp [go_sem, KF3]; done) | (simp [go_sem, KF3, World.cell?_alloc_some]; done) | (simp [go_sem, KF3, frozen?_alloc_cells]; done)), keep_cell hb4 (by first | (simp [go_sem]; done) | (simp [go_sem, KF3]; done) | (simp [go_sem, KF3, World.cell?_alloc_some]; done) | (simp [go_sem, KF3, frozen?_alloc_cells]; done)), keep_cell hb4 (by first | (simp [go_sem]; done) | (simp [go_sem, KF3]; done) | (simp [go_sem, KF3, World.cell?_alloc_some]; done) | (simp [go_sem, KF3, frozen?_alloc_cells]; done)), keep_frozen2 hb4 (by first | (simp [go_sem]; done) | (simp [go_sem, KF3]; done) | (simp [go_sem, KF3, World.cell?_alloc_some]; done) | (simp [go_sem, KF3, frozen?_alloc_cells]; done)) (by first | (simp [go_sem]; done) | (simp [go_sem, KF3]; done) | (simp [go_sem, KF3, World.cell?_alloc_some]; done) | (simp [go_sem, KF3, frozen?_alloc_cells]; done))⟩; have KF4z0 : w.heap.size < w4.heap.size := World.block_lt_of_cell? _ _ KF4.1; have KF4z1 : w2.heap.size < w4.heap.size := World.block_lt_of_cell? _ _ KF4.2.2.2.2.1
  clear hb4 KF3
  clear hx2 hx3
  go_wp2_with fail
  go_quiet (fail)
  have hbq : Below w.heap.size w (w4.drewN nq) := ⟨hb4'.os, hb4'.tape, hb4'.output, hb4'.size, hb4'.block⟩
  go_wp2_with fail
  refine (HB.out _).mono ?_
  rintro e w5 ⟨g, rfl, hB, hb5⟩
  have hb5' := below_step (w := w) (by go_grown) hb5
  have hs5 := hb5'.size
  have HG : Hid (∀ j, j < m → w5.cell? ⟨g, 0 + j, none⟩ = some (.bool (N.testBit j))) := (fun j hj => by rw [Nat.zero_add]; exact Bs.cell hB (bl_len m N).symm (bl_get hj)); have hgl := (Bs.lt hB).2; have hx5 := Below.refl w5.heap.size w5; clear hB
  have KF5 : w5.cell? ⟨w.heap.size, 0, none⟩ = some (.int .i64 (t : Int)) ∧ w5.cell? ⟨w.heap.size, 1, none⟩ = some (.int .u64 (LO N)) ∧ w5.cell? ⟨w.heap.size, 2, none⟩ = some (.int .u64 (HI N)) ∧ (∀ o, w5.frozen? ⟨w.heap.size, o, none⟩ = false) ∧ w5.cell? ⟨w2.heap.size, 0, none⟩ = some (.int .i64 0) ∧ w5.cell? ⟨w2.heap.size, 1, none⟩ = some (.int .u64 0) ∧ w5.cell? ⟨w2.heap.size, 2, none⟩ = some (.int .u64 0) ∧ (∀ o, w5.frozen? ⟨w2.heap.size, o, none⟩ = false) := ⟨keep_cell hb5 (by first | (simp [go_sem]; done) | (simp [go_sem, KF4]; done) | (simp [go_sem, KF4, World.cell?_alloc_some]; done) | (simp [go_sem, KF4, frozen?_alloc_cells]; done)), keep_cell hb5 (by first | (simp [go_sem]; done) | (simp [go_sem, KF4]; done) | (simp [go_sem, KF4, World.cell?_alloc_some]; done) | (simp [go_sem, KF4, frozen?_alloc_cells]; done)), keep_cell hb5 (by first | (simp [go_sem]; done) | (simp [go_sem, KF4]; done) | (simp [go_sem, KF4, World.cell?_alloc_some]; done) | (simp [go_sem, KF4, frozen?_alloc_cells]; done)), keep_frozen2 hb5 (by first | (simp [go_sem]; done) | (simp [go_sem, KF4]; done) | (simp [go_sem, KF4, World.cell?_alloc_some]; done) | (simp [go_sem, KF4, frozen?_alloc_cells]; done)) (by first | (simp [go_sem]; done) | (simp [go_sem, KF4]; done) | (simp [go_sem, KF4, World.cell?_alloc_some]; done) | (simp [go_sem, KF4, frozen?_alloc_cells]; done)), keep_cell hb5 (by first | (simp [go_sem]; done) | (simp [go_sem, KF4]; done) | (simp [go_sem, KF4, World.cell?_alloc_some]; done) | (simp [go_sem, KF4, frozen?_alloc_cells]; done)), keep_cell hb5 (by first | (simp [go_sem]; done) | (simp [go_sem, KF4]; done) | (simp [go_sem, KF4, World.cell?_alloc_some]; done) | (simp [go_sem, KF4, frozen?_alloc_cells]; done)), keep_cell hb5 (by first | (simp [go_sem]; done) | (simp [go_sem, KF4]; done) | (simp [go_sem, KF4, World.cell?_alloc_some]; done) | (simp [go_sem, KF4, frozen?_alloc_cells]; done)), keep_frozen2 hb5 (by first | (simp [go_sem]; done) | (simp [go_sem, KF4]; done) | (simp [go_sem, KF4, World.cell?_alloc_some]; done) | (simp [go_sem, KF4, frozen?_alloc_cells]; done)) (by first | (simp [go_sem]; done) | (simp [go_sem, KF4]; done) | (simp [go_sem, KF4, World.cell?_alloc_some]; done) | (simp [go_sem, KF4, frozen?_alloc_cells]; done))⟩; have KF5z0 : w.heap.size < w5.heap.size := World.block_lt_of_cell? _ _ KF5.1; have KF5z1 : w2.heap.size < w5.heap.size := World.block_lt_of_cell? _ _ KF5.2.2.2.2.1
  clear hb5 KF4
  go_wp2_with fail
  refine (HR.out _).mono ?_
  rintro e w6 ⟨rfl, hb6⟩
  have hb6' := below_step (w := w) (by go_grown) hb6
  have hs6 := hb6'.size
  have hx6 : Below w5.heap.size w5 w6 := hb6; have hgl6 : g < w6.heap.size := Nat.lt_of_lt_of_le hgl hb6.size
  have KF6 : w6.cell? ⟨w.heap.size, 0, none⟩ = some (.int .i64 (t : Int)) ∧ w6.cell? ⟨w.heap.size, 1, none⟩ = some (.int .u64 (LO N)) ∧ w6.cell? ⟨w.heap.size, 2, none⟩ = some (.int .u64 (HI N)) ∧ (∀ o, w6.frozen? ⟨w.heap.size, o, none⟩ = false) ∧ w6.cell? ⟨w2.heap.size, 0, none⟩ = some (.int .i64 0) ∧ w6.cell? ⟨w2.heap.size, 1, none⟩ = some (.int .u64 0) ∧ w6.cell? ⟨w2.heap.size, 2, none⟩ = some (.int .u64 0) ∧ (∀ o, w6.frozen? ⟨w2.heap.size, o, none⟩ = false) := ⟨keep_cell hb6 (by first | (simp [go_sem]; done) | (simp [go_sem, KF5]; done) | (simp [go_sem, KF5, World.cell?_alloc_some]; done) | (simp [go_sem, KF5, frozen?_alloc_cells]; done)), keep_cell hb6 (by first | (simp [go_sem]; done) | (simp [go_sem, KF5]; done) | (simp [go_sem, KF5, World.cell?_alloc_some]; done) | (simp [go_sem, KF5, frozen?_alloc_cells]; done)), keep_cell hb6 (by first | (simp [go_sem]; done) | (simp [go_sem, KF5]; done) | (simp [go_sem, KF5, World.cell?_alloc_some]; done) | (simp [go_sem, KF5, frozen?_alloc_cells]; done)), keep_frozen2 hb6 (by first | (simp [go_sem]; done) | (simp [go_sem, KF5]; done) | (simp [go_sem, KF5, World.cell?_alloc_some]; done) | (simp [go_sem, KF5, frozen?_alloc_cells]; done)) (by first | (simp [go_sem]; done) | (simp [go_sem, KF5]; done) | (simp [go_sem, KF5, World.cell?_alloc_some]; done) | (simp [go_sem, KF5, frozen?_alloc_cells]; done)), keep_cell hb6 (by first | (simp [go_sem]; done) | (simp [go_sem, KF5]; done) | (simp [go_sem, KF5, World.cell?_alloc_some]; done) | (simp [go_sem, KF5, frozen?_alloc_cells]; done)), keep_cell hb6 (by first | (simp [go_sem]; done) | (simp [go_sem, KF5]; done) | (simp [go_sem, KF5, World.cell?_alloc_some]; done) | (simp [go_sem, KF5, frozen?_alloc_cells]; done)), keep_cell hb6 (by first | (simp [go_sem]; done) | (simp [go_sem, KF5]; done) | (simp [go_sem, KF5, World.cell?_alloc_some]; done) | (simp [go_sem, KF5, frozen?_alloc_cells]; done)), keep_frozen2 hb6 (by first | (simp [go_sem]; done) | (simp [go_sem, KF5]; done) | (simp [go_sem, KF5, World.cell?_alloc_some]; done) | (simp [go_sem, KF5, frozen?_alloc_cells]; done)) (by first | (simp [go_sem]; done) | (simp [go_sem, KF5]; done) | (simp [go_sem, KF5, World.cell?_alloc_some]; done) | (simp [go_sem, KF5, frozen?_alloc_cells]; done))⟩; have KF6z0 : w.heap.size < w6.heap.size := World.block_lt_of_cell? _ _ KF6.1; have KF6z1 : w2.heap.size < w6.heap.size := World.block_lt_of_cell? _ _ KF6.2.2.2.2.1
  clear hb6 KF5
  go_wp2_with fail
  refine (HV.out g w6 (fun j hj => (hx6.cell (p := ⟨g, 0 + j, none⟩) hgl).trans (HG.out j hj)) hgl6).mono ?_
  rintro e w7 ⟨rfl, hb7⟩
  have hb7' := below_step (w := w) (by go_grown) hb7
  have hs7 := hb7'.size
  have KF7 : w7.cell? ⟨w.heap.size, 0, none⟩ = some (.int .i64 (t : Int)) ∧ w7.cell? ⟨w.heap.size, 1, none⟩ = some (.int .u64 (LO N)) ∧ w7.cell? ⟨w.heap.size, 2, none⟩ = some (.int .u64 (HI N)) ∧ (∀ o, w7.frozen? ⟨w.heap.size, o, none⟩ = false) ∧ w7.cell? ⟨w2.heap.size, 0, none⟩ = some (.int .i64 0) ∧ w7.cell? ⟨w2.heap.size, 1, none⟩ = some (.int .u64 0) ∧ w7.cell? ⟨w2.heap.size, 2, none⟩ = some (.int .u64 0) ∧ (∀ o, w7.frozen? ⟨w2.heap.size, o, none⟩ = false) := ⟨keep_cell hb7 (by first | (simp [go_sem]; done) | (simp [go_sem, KF6]; done) | (simp [go_sem, KF6, World.cell?_alloc_some]; done) | (simp [go_sem, KF6, frozen?_alloc_cells]; done)), keep_cell hb7 (by first | (simp [go_sem]; done) | (simp [go_sem, KF6]; done) | (simp [go_sem, KF6, World.cell?_alloc_some]; done) | (simp [go_sem, KF6, frozen?_alloc_cells]; done)), keep_cell hb7 (by first | (simp [go_sem]; done) | (simp [go_sem, KF6]; done) | (simp [go_sem, KF6, World.cell?_alloc_some]; done) | (simp [go_sem, KF6, frozen?_alloc_cells]; done)), keep_frozen2 hb7 (by first | (simp [go_sem]; done) | (simp [go_sem, KF6]; done) | (simp [go_sem, KF6, World.cell?_alloc_some]; done) | (simp [go_sem, KF6, frozen?_alloc_cells]; done)) (by first | (simp [go_sem]; done) | (simp [go_sem, KF6]; done) | (simp [go_sem, KF6, World.cell?_alloc_some]; done) | (simp [go_sem, KF6, frozen?_alloc_cells]; done)), keep_cell hb7 (by first | (simp [go_sem]; done) | (simp [go_sem, KF6]; done) | (simp [go_sem, KF6, World.cell?_alloc_some]; done) | (simp [go_sem, KF6, frozen?_alloc_cells]; done)), keep_cell hb7 (by first | (simp [go_sem]; done) | (simp [go_sem, KF6]; done) | (simp [go_sem, KF6, World.cell?_alloc_some]; done) | (simp [go_sem, KF6, frozen?_alloc_cells]; done)), keep_cell hb7 (by first | (simp [go_sem]; done) | (simp [go_sem, KF6]; done) | (simp [go_sem, KF6, World.cell?_alloc_some]; done) | (simp [go_sem, KF6, frozen?_alloc_cells]; done)), keep_frozen2 hb7 (by first | (simp [go_sem]; done) | (simp [go_sem, KF6]; done) | (simp [go_sem, KF6, World.cell?_alloc_some]; done) | (simp [go_sem, KF6, frozen?_alloc_cells]; done)) (by first | (simp [go_sem]; done) | (simp [go_sem, KF6]; done) | (simp [go_sem, KF6, World.cell?_alloc_some]; done) | (simp [go_sem, KF6, frozen?_alloc_cells]; done))⟩; have KF7z0 : w.heap.size < w7.heap.size := World.block_lt_of_cell? _ _ KF7.1; have KF7z1 : w2.heap.size < w7.heap.size := World.block_lt_of_cell? _ _ KF7.2.2.2.2.1
  clear hb7 KF6
  clear hx6 hgl6 hgl HG
  go_wp2_with fail
  all_goals first | (exfalso; omega) | (go_ret; exact ⟨rfl, by go_grown⟩)

set_option maxRecDepth 100000 in
set_option maxHeartbeats 1200000 in
theorem walk_yes1_f {w : World} {A lo hi s : Int} {l : List Bool} {a : Option Addr} {n c : Nat} {M : Nat} (HV1 : Hid (∀ (b : Option Addr) (d : Nat) (wx : World), Br wx b l → Calls Try.prog 6 #[.int .i64 s, .slice b n d] wx fun e w' => e = .returned (.tuple #[.agg #[.int .i64 s, .int .u64 (LO M), .int .u64 (HI M)], .int .i64 0]) ∧ Below wx.heap.size wx w')) (HWD : Hid (∀ wx, Below w.heap.size w wx → Calls Try.prog 9 #[.slice a n c] wx fun e w' => e = .returned (.agg #[.int .i64 s, .int .u64 (LO M), .int .u64 (HI M)]) ∧ Below wx.heap.size wx w')) (h1 : (1 : Int) ≤ s) (h0 : (0 : Int) < s) (hz : (s == 0) = false) (hne : ((n : Int) == s) = true) (hs : srt s = true) (HB : Hid (∀ wx, Calls Try.prog 11 #[.agg #[.int .i64 A, .int .u64 lo, .int .u64 hi]] wx fun e w' => e = .returned (.slice none 0 0) ∧ Below wx.heap.size wx w')) (HR : Hid (∀ wx, Calls Try.prog 12 #[.agg #[.int .i64 A, .int .u64 lo, .int .u64 hi]] wx fun e w' => e = .returned (.bool false) ∧ Below wx.heap.size wx w')) (hl : Br w a l) (hn : n = l.length) (hm : n ≤ 200) :
    Calls Try.prog 3 #[.int .i64 s, .slice a n c, .agg #[.int .i64 A, .int .u64 lo, .int .u64 hi]] w fun e w' => e = .returned (.bool true) ∧ Below w.heap.size w w' := by
  have hqe := eq_own
  have hqn := neq_own
  have hm9 : ¬ 200 < (n : Int) := by omega
  have HL : Hid (Br w a l) := hl
  have HN : Hid (n = l.length) := hn
  have HIS : Hid (∀ wx, Calls Try.prog 7 #[.int .i64 s] wx fun e w' => e = .returned (.bool true) ∧ Below wx.heap.size wx w') := fun wx => (refIs_any s wx).mono fun e w' h => ⟨by rw [← hs]; exact h.1, h.2 ▸ Below.refl _ _⟩
  have hm10 : n ≤ 1000 := by omega
  clear hl hn hs
  go_enter Try.func3, Try.ntmps3
  go_wp2_with fail
  refine (known_any _).mono ?_
  rintro e w1 ⟨rfl, hb1⟩
  have hb1' := below_step (w := w) (by go_grown) hb1
  have hs1 := hb1'.size
  have KF1 : w1.cell? ⟨w.heap.size, 0, none⟩ = some (.int .i64 A) ∧ w1.cell? ⟨w.heap.size, 1, none⟩ = some (.int .u64 lo) ∧ w1.cell? ⟨w.heap.size, 2, none⟩ = some (.int .u64 hi) ∧ (∀ o, w1.frozen? ⟨w.heap.size, o, none⟩ = false) := ⟨keep_cell hb1 (by first | (simp [go_sem]; done)), keep_cell hb1 (by first | (simp [go_sem]; done)), keep_cell hb1 (by first | (simp [go_sem]; done)), keep_frozen2 hb1 (by first | (simp [go_sem]; done)) (by first | (simp [go_sem]; done))⟩; have KF1z0 : w.heap.size < w1.heap.size := World.block_lt_of_cell? _ _ KF1.1
  clear hb1
  go_wp2_with (at_builtin; refine wpList_app_br rfl _ _ rfl rfl a l c n rfl HN.out (HL.out.below hb1') (by have := HN.out; omega) ?_; intro b d wa hbr hba)
  have KFa : wa.cell? ⟨w.heap.size, 0, none⟩ = some (.int .i64 A) ∧ wa.cell? ⟨w.heap.size, 1, none⟩ = some (.int .u64 lo) ∧ wa.cell? ⟨w.heap.size, 2, none⟩ = some (.int .u64 hi) ∧ (∀ o, wa.frozen? ⟨w.heap.size, o, none⟩ = false) := ⟨(hba.cell (p := ⟨w.heap.size, 0, none⟩) KF1z0).trans KF1.1, (hba.cell (p := ⟨w.heap.size, 1, none⟩) KF1z0).trans KF1.2.1, (hba.cell (p := ⟨w.heap.size, 2, none⟩) KF1z0).trans KF1.2.2.1, fun o => (hba.frozen (p := ⟨w.heap.size, o, none⟩) KF1z0).trans (KF1.2.2.2 o)⟩
  have hba' : Below w.heap.size w wa := hb1'.trans (hba.mono hs1)
  have hsa := hba'.size
  have KFaz0 : w.heap.size < wa.heap.size := Nat.lt_of_lt_of_le KF1z0 hba.size
  have HBR : Hid (Br wa b l) := hbr
  clear KF1 hba hbr
  go_wp2_with fail
  refine (HV1.out b d _ HBR.out).mono ?_
  rintro e w2 ⟨rfl, hb2⟩
  have hb2' := below_step (w := w) (by go_grown) hb2
  have hs2 := hb2'.size
  have hx2 : Below wa.heap.size wa w2 := hb2
  have KF2 : w2.cell? ⟨w.heap.size, 0, none⟩ = some (.int .i64 A) ∧ w2.cell? ⟨w.heap.size, 1, none⟩ = some (.int .u64 lo) ∧ w2.cell? ⟨w.heap.size, 2, none⟩ = some (.int .u64 hi) ∧ (∀ o, w2.frozen? ⟨w.heap.size, o, none⟩ = false) := ⟨keep_cell hb2 (by first | (simp [go_sem]; done) | (simp [go_sem, KFa]; done) | (simp [go_sem, KFa, World.cell?_alloc_some]; done) | (simp [go_sem, KFa, frozen?_alloc_cells]; done)), keep_cell hb2 (by first | (simp [go_sem]; done) | (simp [go_sem, KFa]; done) | (simp [go_sem, KFa, World.cell?_alloc_some]; done) | (simp [go_sem, KFa, frozen?_alloc_cells]; done)), keep_cell hb2 (by first | (simp [go_sem]; done) | (simp [go_sem, KFa]; done) | (simp [go_sem, KFa, World.cell?_alloc_some]; done) | (simp [go_sem, KFa, frozen?_alloc_cells]; done)), keep_frozen2 hb2 (by first | (simp [go_sem]; done) | (simp [go_sem, KFa]; done) | (simp [go_sem, KFa, World.cell?_alloc_some]; done) | (simp [go_sem, KFa, frozen?_alloc_cells]; done)) (by first | (simp [go_sem]; done) | (simp [go_sem, KFa]; done) | (simp [go_sem, KFa, World.cell?_alloc_some]; done) | (simp [go_sem, KFa, frozen?_alloc_cells]; done))⟩; have KF2z0 : w.heap.size < w2.heap.size := World.block_lt_of_cell? _ _ KF2.1
  clear hb2 KFa
  go_wp2_with fail
  refine (HIS.out _).mono ?_
  rintro e w3 ⟨rfl, hb3⟩
  have hb3' := below_step (w := w) (by go_grown) hb3
  have hs3 := hb3'.size
  have hx3 : Below wa.heap.size wa w3 := (hx2.alloc hx2.size _).trans (hb3.mono (by have := hx2.size; simp; omega))
  have KF3 : w3.cell? ⟨w.heap.size, 0, none⟩ = some (.int .i64 A) ∧ w3.cell? ⟨w.heap.size, 1, none⟩ = some (.int .u64 lo) ∧ w3.cell? ⟨w.heap.size, 2, none⟩ = some (.int .u64 hi) ∧ (∀ o, w3.frozen? ⟨w.heap.size, o, none⟩ = false) ∧ w3.cell? ⟨w2.heap.size, 0, none⟩ = some (.int .i64 s) ∧ w3.cell? ⟨w2.heap.size, 1, none⟩ = some (.int .u64 (LO M)) ∧ w3.cell? ⟨w2.heap.size, 2, none⟩ = some (.int .u64 (HI M)) ∧ (∀ o, w3.frozen? ⟨w2.heap.size, o, none⟩ = false) := ⟨keep_cell hb3 (by first | (simp [go_sem]; done) | (simp [go_sem, KF2]; done) | (simp [go_sem, KF2, World.cell?_alloc_some]; done) | (simp [go_sem, KF2, frozen?_alloc_cells]; done)), keep_cell hb3 (by first | (simp [go_sem]; done) | (simp [go_sem, KF2]; done) | (simp [go_sem, KF2, World.cell?_alloc_some]; done) | (simp [go_sem, KF2, frozen?_alloc_cells]; done)), keep_cell hb3 (by first | (simp [go_sem]; done) | (simp [go_sem, KF2]; done) | (simp [go_sem, KF2, World.cell?_alloc_some]; done) | (simp [go_sem, KF2, frozen?_alloc_cells]; done)), keep_frozen2 hb3 (by first | (simp [go_sem]; done) | (simp [go_sem, KF2]; done) | (simp [go_sem, KF2, World.cell?_alloc_some]; done) | (simp [go_sem, KF2, frozen?_alloc_cells]; done)) (by first | (simp [go_sem]; done) | (simp [go_sem, KF2]; done) | (simp [go_sem, KF2, World.cell?_alloc_some]; done) | (simp [go_sem, KF2, frozen?_alloc_cells]; done)), keep_cell hb3 (by first | (simp [go_sem]; done) | (simp [go_sem, KF2]; done) | (simp [go_sem, KF2, World.cell?_alloc_some]; done) | (simp [go_sem, KF2, frozen?_alloc_cells]; done)), keep_cell hb3 (by first | (simp [go_sem]; done) | (simp [go_sem, KF2]; done) | (simp [go_sem, KF2, World.cell?_alloc_some]; done) | (simp [go_sem, KF2, frozen?_alloc_cells]; done)), keep_cell hb3 (by first | (simp [go_sem]; done) | (simp [go_sem, KF2]; done) | (simp [go_sem, KF2, World.cell?_alloc_some]; done) | (simp [go_sem, KF2, frozen?_alloc_cells]; done)), keep_frozen2 hb3 (by first | (simp [go_sem]; done) | (simp [go_sem, KF2]; done) | (simp [go_sem, KF2, World.cell?_alloc_some]; done) | (simp [go_sem, KF2, frozen?_alloc_cells]; done)) (by first | (simp [go_sem]; done) | (simp [go_sem, KF2]; done) | (simp [go_sem, KF2, World.cell?_alloc_some]; done) | (simp [go_sem, KF2, frozen?_alloc_cells]; done))⟩; have KF3z0 : w.heap.size < w3.heap.size := World.block_lt_of_cell? _ _ KF3.1; have KF3z1 : w2.heap.size < w3.heap.size := World.block_lt_of_cell? _ _ KF3.2.2.2.2.1
  clear hb3 KF2
  go_wp2_with fail
  refine (bools_same (HBR.out.below hx3) (HL.out.below hb3') HN.out hm10).mono ?_
  rintro e w4 ⟨rfl, hb4⟩
  have hb4' := below_step (w := w) (by go_grown) hb4
  have hs4 := hb4'.size
  have KF4 : w4.cell? ⟨w.heap.size, 0, none⟩ = some (.int .i64 A) ∧ w4.cell? ⟨w.heap.size, 1, none⟩ = some (.int .u64 lo) ∧ w4.cell? ⟨w.heap.size, 2, none⟩ = some (.int .u64 hi) ∧ (∀ o, w4.frozen? ⟨w.heap.size, o, none⟩ = false) ∧ w4.cell? ⟨w2.heap.size, 0, none⟩ = some (.int .i64 s) ∧ w4.cell? ⟨w2.heap.size, 1, none⟩ = some (.int .u64 (LO M)) ∧ w4.cell? ⟨w2.heap.size, 2, none⟩ = some (.int .u64 (HI M)) ∧ (∀ o, w4.frozen? ⟨w2.heap.size, o, none⟩ = false) := ⟨keep_cell hb4 (by first | (simp [go_sem]; done) | (simp [go_sem, KF3]; done) | (simp [go_sem, KF3, World.cell?_alloc_some]; done) | (simp [go_sem, KF3, frozen?_alloc_cells]; done)), keep_cell hb4 (by first | (simp [go_sem]; done) | (simp [go_sem, KF3]; done) | (simp [go_sem, KF3, World.cell?_alloc_some]; done) | (simp [go_sem, KF3, frozen?_alloc_cells]; done)), keep_cell hb4 (by first | (simp [go_sem]; done) | (simp [go_sem, KF3]; done) | (simp [go_sem, KF3, World.cell?_alloc_some]; done) | (simp [go_sem, KF3, frozen?_alloc_cells]; done)), keep_frozen2 hb4 (by first | (simp [go_sem]; done) | (simp [go_sem, KF3]; done) | (simp [go_sem, KF3, World.cell?_alloc_some]; done) | (simp [go_sem, KF3, frozen?_alloc_cells]; done)) (by first | (simp [go_sem]; done) | (simp [go_sem, KF3]; done) | (simp [go_sem, KF3, World.cell?_alloc_some]; done) | (simp [go_sem, KF3, frozen?_alloc_cells]; done)), keep_cell hb4 (by first | (simp [go_sem]; done) | (simp [go_sem, KF3]; done) | (simp [go_sem, KF3, World.cell?_alloc_some]; done) | (simp [go_sem, KF3, frozen?_alloc_cells]; done)), keep_cell hb4 (by first | (simp [go_sem]; done) | (simp [go_sem, KF3]; done) | (simp [go_sem, KF3, World.cell?_alloc_some]; done) | (simp [go_sem, KF3, frozen?_alloc_cells]; done)), keep_cell hb4 (by first | (simp [go_sem]; done) | (simp [go_sem, KF3]; done) | (simp [go_sem, KF3, World.cell?_alloc_some]; done) | (simp [go_sem, KF3, frozen?_alloc_cells]; done)), keep_frozen2 hb4 (by first | (simp [go_sem]; done) | (simp [go_sem, KF3]; done) | (simp [go_sem, KF3, World.cell?_alloc_some]; done) | (simp [go_sem, KF3, frozen?_alloc_cells]; done)) (by first | (simp [go_sem]; done) | (simp [go_sem, KF3]; done) | (simp [go_sem, KF3, World.cell?_alloc_some]; done) | (simp [go_sem, KF3, frozen?_alloc_cells]; done))⟩; have KF4z0 : w.heap.size < w4.heap.size := World.block_lt_of_cell? _ _ KF4.1; have KF4z1 : w2.heap.size < w4.heap.size := World.block_lt_of_cell? _ _ KF4.2.2.2.2.1
  clear hb4 KF3
  clear hx2 hx3
  go_wp2_with fail
  refine wp_named fun a0 ha0 => ?_
  have o0 := old_at ha0 (t := 0) rfl
  have o1 := old_at ha0 (t := 1) rfl
  have o8 := old_at ha0 (t := 8) rfl
  have o10 := old_at ha0 (t := 10) rfl
  refine wp_region_lin (S := SS w w4.heap.size [(w2.heap.size, [.int .i64 s, .int .u64 (LO M), .int .u64 (HI M)]), (w.heap.size, [.int .i64 A, .int .u64 lo, .int .u64 hi])] []) [] (fun _ => 0) (by kernel_rfl) (by kernel_rfl) (by rw [← ha0]; kernel_rfl) (SS.start (by first | assumption | go_grown) ?_) ?_
  · intro p hp; simp only [List.mem_cons, List.not_mem_nil, or_false] at hp; rcases hp with rfl | rfl; all_goals exact ⟨At.three (by simp [KF4]) (by simp [KF4]) (by simp [KF4]), by simp⟩
  apply LinAll.cons0
  · intro g L a x hLi haft hS hK; have t10 := (hK.old 10 (by kernel_rfl)).trans o10; (try dsimp only at t10); refine go_in (wanted_all rfl) ?_; intro K hk; clear haft hK hLi; go_simp; exact hS.go hk rfl
  apply LinAll.cons0
  · intro g L a x hLi haft hS hK; have t54 := hK.new 0 0 _ 54 _ rfl rfl rfl (by kernel_rfl) (waits haft 0 (by kernel_rfl)); (try dsimp only at t54); refine go_in (wanted_all rfl) ?_; intro K hk; clear haft hK hLi; go_simp; exact hS.go hk rfl
  apply LinAll.cons0
  · intro g L a x hLi haft hS hK; have t0 := (hK.old 0 (by kernel_rfl)).trans o0; have tg := hK.new 1 0 _ 55 _ rfl rfl rfl (by kernel_rfl) (waits haft 1 (by kernel_rfl)); (try dsimp only at t0); refine go_in (wanted_at rfl rfl rfl tg rfl) ?_; intro K hk; clear haft hK tg hLi; go_simp; exact hS.go hk rfl
  apply LinAll.cons0
  · intro g L a x hLi haft hS hK; have t56 := hK.new 2 0 _ 56 _ rfl rfl rfl (by kernel_rfl) (waits haft 2 (by kernel_rfl)); have tg := hK.new 1 1 _ 55 _ rfl rfl rfl (by kernel_rfl) (waits haft 1 (by kernel_rfl)); (try dsimp only at t56); refine go_in (wanted_at rfl rfl rfl tg rfl) ?_; intro K hk; clear haft hK tg hLi; go_simp; exact hS.go hk rfl
  apply LinAll.cons0
  · intro g L a x hLi haft hS hK; have t57 := hK.new 3 0 _ 57 _ rfl rfl rfl (by kernel_rfl) (waits haft 3 (by kernel_rfl)); have tg := hK.new 1 2 _ 55 _ rfl rfl rfl (by kernel_rfl) (waits haft 1 (by kernel_rfl)); (try dsimp only at t57); refine go_in (wanted_at rfl rfl rfl tg rfl) ?_; intro K hk; clear haft hK tg hLi; go_simp; exact hS.go hk rfl
  apply LinAll.cons0
  · intro g L a x hLi haft hS hK; have t8 := (hK.old 8 (by kernel_rfl)).trans o8; have tg := hK.new 4 0 _ 58 _ rfl rfl rfl (by kernel_rfl) (waits haft 4 (by kernel_rfl)); (try dsimp only at t8); refine go_in (wanted_at rfl rfl rfl tg rfl) ?_; intro K hk; obtain ⟨c0, c1, c2⟩ := (hS.own _ (.head _)).2.get3; clear haft hK tg hLi; go_simp; exact hS.go hk rfl
  apply LinAll.cons0
  · intro g L a x hLi haft hS hK; have t1 := (hK.old 1 (by kernel_rfl)).trans o1; have tg := hK.new 4 1 _ 58 _ rfl rfl rfl (by kernel_rfl) (waits haft 4 (by kernel_rfl)); (try dsimp only at t1); refine go_in (wanted_at rfl rfl rfl tg rfl) ?_; intro K hk; clear haft hK tg hLi; go_simp; exact hS.go hk rfl
  apply LinAll.cons0
  · intro g L a x hLi haft hS hK; have t60 := hK.new 6 0 _ 60 _ rfl rfl rfl (by kernel_rfl) (waits haft 6 (by kernel_rfl)); have tg := hK.new 4 2 _ 58 _ rfl rfl rfl (by kernel_rfl) (waits haft 4 (by kernel_rfl)); (try dsimp only at t60); refine go_in (wanted_at rfl rfl rfl tg rfl) ?_; intro K hk; clear haft hK tg hLi; go_simp; refine (HWD.out _ hS.below).mono ?_; rintro e y ⟨rfl, hb⟩; exact hS.on hk hb rfl
  apply LinAll.cons0
  · intro g L a x hLi haft hS hK; have t59 := hK.new 5 2 _ 59 _ rfl rfl rfl (by kernel_rfl) (waits haft 5 (by kernel_rfl)); have t61 := hK.new 7 0 _ 61 _ rfl rfl rfl (by kernel_rfl) (waits haft 7 (by kernel_rfl)); have tg := hK.new 4 3 _ 58 _ rfl rfl rfl (by kernel_rfl) (waits haft 4 (by kernel_rfl)); (try dsimp only at t59 t61); refine go_in (wanted_at rfl rfl rfl tg rfl) ?_; intro K hk; clear haft hK tg hLi; go_simp; exact hS.go hk rfl
  apply LinAll.cons0
  · intro g L a x hLi haft hS hK; have t58 := hK.new 4 4 _ 58 _ rfl rfl rfl (by kernel_rfl) (waits haft 4 (by kernel_rfl)); have t62 := hK.new 8 0 _ 62 _ rfl rfl rfl (by kernel_rfl) (waits haft 8 (by kernel_rfl)); have tg := hK.new 1 7 _ 55 _ rfl rfl rfl (by kernel_rfl) (waits haft 1 (by kernel_rfl)); (try dsimp only at t58 t62); refine go_in (wanted_at rfl rfl rfl tg rfl) ?_; intro K hk; clear haft hK tg hLi; go_simp; exact hS.go hk rfl
  apply LinAll.cons0
  · intro g L a x hLi haft hS hK; have t63 := hK.new 9 0 _ 63 _ rfl rfl rfl (by kernel_rfl) (waits haft 9 (by kernel_rfl)); have tg := hK.new 1 8 _ 55 _ rfl rfl rfl (by kernel_rfl) (waits haft 1 (by kernel_rfl)); (try dsimp only at t63); refine go_in (wanted_at rfl rfl rfl tg rfl) ?_; intro K hk; clear haft hK tg hLi; go_simp; exact hS.go hk rfl
  apply LinAll.cons0
  · intro g L a x hLi haft hS hK; have t0 := (hK.old 0 (by kernel_rfl)).trans o0; have tg := hK.new 10 0 _ 64 _ rfl rfl rfl (by kernel_rfl) (waits haft 10 (by kernel_rfl)); (try dsimp only at t0); refine go_in (wanted_at rfl rfl rfl tg rfl) ?_; intro K hk; clear haft hK tg hLi; go_simp; exact hS.go hk rfl
  apply LinAll.cons0
  · intro g L a x hLi haft hS hK; have t65 := hK.new 11 0 _ 65 _ rfl rfl rfl (by kernel_rfl) (waits haft 11 (by kernel_rfl)); have tg := hK.new 10 1 _ 64 _ rfl rfl rfl (by kernel_rfl) (waits haft 10 (by kernel_rfl)); (try dsimp only at t65); refine go_in (wanted_at rfl rfl rfl tg rfl) ?_; intro K hk; clear haft hK tg hLi; go_simp; exact hS.go hk rfl
  apply LinAll.cons0
  · intro g L a x hLi haft hS hK; have t66 := hK.new 12 0 _ 66 _ rfl rfl rfl (by kernel_rfl) (waits haft 12 (by kernel_rfl)); have tg := hK.new 10 2 _ 64 _ rfl rfl rfl (by kernel_rfl) (waits haft 10 (by kernel_rfl)); (try dsimp only at t66); refine go_in (wanted_at rfl rfl rfl tg rfl) ?_; intro K hk; clear haft hK tg hLi; go_simp; exact hS.go hk rfl
  apply LinAll.cons0
  · intro g L a x hLi haft hS hK; have t8 := (hK.old 8 (by kernel_rfl)).trans o8; have tg := hK.new 13 0 _ 67 _ rfl rfl rfl (by kernel_rfl) (waits haft 13 (by kernel_rfl)); (try dsimp only at t8); exact go_out (wanted_at rfl rfl rfl tg rfl) ⟨rfl, hS.same rfl⟩
  apply LinAll.cons0
  · intro g L a x hLi haft hS hK; have t1 := (hK.old 1 (by kernel_rfl)).trans o1; have tg := hK.new 13 1 _ 67 _ rfl rfl rfl (by kernel_rfl) (waits haft 13 (by kernel_rfl)); (try dsimp only at t1); exact go_out (wanted_at rfl rfl rfl tg rfl) ⟨rfl, hS.same rfl⟩
  apply LinAll.cons0
  · intro g L a x hLi haft hS hK; have t69 := hK.new 15 0 _ 69 _ rfl rfl rfl (by kernel_rfl) (waits haft 15 (by kernel_rfl)); have tg := hK.new 13 2 _ 67 _ rfl rfl rfl (by kernel_rfl) (waits haft 13 (by kernel_rfl)); (try dsimp only at t69); exact go_out (wanted_at rfl rfl rfl tg rfl) ⟨rfl, hS.same rfl⟩
  apply LinAll.cons0
  · intro g L a x hLi haft hS hK; have t70 := hK.new 16 0 _ 70 _ rfl rfl rfl (by kernel_rfl) (waits haft 16 (by kernel_rfl)); have tg := hK.new 13 3 _ 67 _ rfl rfl rfl (by kernel_rfl) (waits haft 13 (by kernel_rfl)); (try dsimp only at t70); exact go_out (wanted_at rfl rfl rfl tg rfl) ⟨rfl, hS.same rfl⟩
  apply LinAll.cons0
  · intro g L a x hLi haft hS hK; have t71 := hK.new 17 0 _ 71 _ rfl rfl rfl (by kernel_rfl) (waits haft 17 (by kernel_rfl)); have tg := hK.new 13 4 _ 67 _ rfl rfl rfl (by kernel_rfl) (waits haft 13 (by kernel_rfl)); (try dsimp only at t71); exact go_out (wanted_at rfl rfl rfl tg rfl) ⟨rfl, hS.same rfl⟩
  apply LinAll.cons0
  · intro g L a x hLi haft hS hK; have t68 := hK.new 14 4 _ 68 _ rfl rfl rfl (by kernel_rfl) (waits haft 14 (by kernel_rfl)); have t72 := hK.new 18 0 _ 72 _ rfl rfl rfl (by kernel_rfl) (waits haft 18 (by kernel_rfl)); have tg := hK.new 13 5 _ 67 _ rfl rfl rfl (by kernel_rfl) (waits haft 13 (by kernel_rfl)); (try dsimp only at t68 t72); exact go_out (wanted_at rfl rfl rfl tg rfl) ⟨rfl, hS.same rfl⟩
  apply LinAll.cons0
  · intro g L a x hLi haft hS hK; have t67 := hK.new 13 6 _ 67 _ rfl rfl rfl (by kernel_rfl) (waits haft 13 (by kernel_rfl)); have t73 := hK.new 19 0 _ 73 _ rfl rfl rfl (by kernel_rfl) (waits haft 19 (by kernel_rfl)); have tg := hK.new 10 9 _ 64 _ rfl rfl rfl (by kernel_rfl) (waits haft 10 (by kernel_rfl)); (try dsimp only at t67 t73); refine go_in (wanted_at rfl rfl rfl tg rfl) ?_; intro K hk; clear haft hK tg hLi; go_simp; exact hS.go hk rfl
  apply LinAll.cons0
  · intro g L a x hLi haft hS hK; have t64 := hK.new 10 10 _ 64 _ rfl rfl rfl (by kernel_rfl) (waits haft 10 (by kernel_rfl)); have t74 := hK.new 20 0 _ 74 _ rfl rfl rfl (by kernel_rfl) (waits haft 20 (by kernel_rfl)); have tg := hK.new 1 19 _ 55 _ rfl rfl rfl (by kernel_rfl) (waits haft 1 (by kernel_rfl)); (try dsimp only at t64 t74); refine go_in (wanted_at rfl rfl rfl tg rfl) ?_; intro K hk; clear haft hK tg hLi; go_simp; exact hS.go hk rfl
  apply LinAll.cons0
  · intro g L a x hLi haft hS hK; have t55 := hK.new 1 20 _ 55 _ rfl rfl rfl (by kernel_rfl) (waits haft 1 (by kernel_rfl)); have t75 := hK.new 21 0 _ 75 _ rfl rfl rfl (by kernel_rfl) (waits haft 21 (by kernel_rfl)); (try dsimp only at t55 t75); refine go_in (wanted_all rfl) ?_; intro K hk; clear haft hK hLi; go_simp; exact hS.go hk rfl
  refine LinAll.nil fun g x hS => ?_
  subst ha0
  simp only [Act.put, List.setIfInBounds_toArray, List.set_cons_zero, List.set_cons_succ]
  clear o0 o1 o8 o10
  have KL := And.intro (hS.own _ (.head _)).2.get3 (hS.own _ (.tail _ (.head _))).2.get3
  have hBq := hS.below
  have hBs := hBq.size
  clear hS
  clear KF4
  go_wp2_with fail
  refine (HB.out _).mono ?_
  rintro e w5 ⟨rfl, hb5⟩
  have hb5' := below_step (w := w) (by go_grown) hb5
  have hs5 := hb5'.size
  have KF5 : w5.cell? ⟨w.heap.size, 0, none⟩ = some (.int .i64 A) ∧ w5.cell? ⟨w.heap.size, 1, none⟩ = some (.int .u64 lo) ∧ w5.cell? ⟨w.heap.size, 2, none⟩ = some (.int .u64 hi) ∧ w5.cell? ⟨w2.heap.size, 0, none⟩ = some (.int .i64 s) ∧ w5.cell? ⟨w2.heap.size, 1, none⟩ = some (.int .u64 (LO M)) ∧ w5.cell? ⟨w2.heap.size, 2, none⟩ = some (.int .u64 (HI M)) := ⟨keep_cell hb5 (by first | (simp [go_sem]; done) | (simp [go_sem, KL]; done) | (simp [go_sem, KL, World.cell?_alloc_some]; done) | (simp [go_sem, KL, frozen?_alloc_cells]; done)), keep_cell hb5 (by first | (simp [go_sem]; done) | (simp [go_sem, KL]; done) | (simp [go_sem, KL, World.cell?_alloc_some]; done) | (simp [go_sem, KL, frozen?_alloc_cells]; done)), keep_cell hb5 (by first | (simp [go_sem]; done) | (simp [go_sem, KL]; done) | (simp [go_sem, KL, World.cell?_alloc_some]; done) | (simp [go_sem, KL, frozen?_alloc_cells]; done)), keep_cell hb5 (by first | (simp [go_sem]; done) | (simp [go_sem, KL]; done) | (simp [go_sem, KL, World.cell?_alloc_some]; done) | (simp [go_sem, KL, frozen?_alloc_cells]; done)), keep_cell hb5 (by first | (simp [go_sem]; done) | (simp [go_sem, KL]; done) | (simp [go_sem, KL, World.cell?_alloc_some]; done) | (simp [go_sem, KL, frozen?_alloc_cells]; done)), keep_cell hb5 (by first | (simp [go_sem]; done) | (simp [go_sem, KL]; done) | (simp [go_sem, KL, World.cell?_alloc_some]; done) | (simp [go_sem, KL, frozen?_alloc_cells]; done))⟩; have KF5z0 : w.heap.size < w5.heap.size := World.block_lt_of_cell? _ _ KF5.1; have KF5z1 : w2.heap.size < w5.heap.size := World.block_lt_of_cell? _ _ KF5.2.2.2.1
  clear hb5 KL
  go_wp2_with fail
  refine (HR.out _).mono ?_
  rintro e w6 ⟨rfl, hb6⟩
  have hb6' := below_step (w := w) (by go_grown) hb6
  have hs6 := hb6'.size
  have KF6 : w6.cell? ⟨w.heap.size, 0, none⟩ = some (.int .i64 A) ∧ w6.cell? ⟨w.heap.size, 1, none⟩ = some (.int .u64 lo) ∧ w6.cell? ⟨w.heap.size, 2, none⟩ = some (.int .u64 hi) ∧ w6.cell? ⟨w2.heap.size, 0, none⟩ = some (.int .i64 s) ∧ w6.cell? ⟨w2.heap.size, 1, none⟩ = some (.int .u64 (LO M)) ∧ w6.cell? ⟨w2.heap.size, 2, none⟩ = some (.int .u64 (HI M)) := ⟨keep_cell hb6 (by first | (simp [go_sem]; done) | (simp [go_sem, KF5]; done) | (simp [go_sem, KF5, World.cell?_alloc_some]; done) | (simp [go_sem, KF5, frozen?_alloc_cells]; done)), keep_cell hb6 (by first | (simp [go_sem]; done) | (simp [go_sem, KF5]; done) | (simp [go_sem, KF5, World.cell?_alloc_some]; done) | (simp [go_sem, KF5, frozen?_alloc_cells]; done)), keep_cell hb6 (by first | (simp [go_sem]; done) | (simp [go_sem, KF5]; done) | (simp [go_sem, KF5, World.cell?_alloc_some]; done) | (simp [go_sem, KF5, frozen?_alloc_cells]; done)), keep_cell hb6 (by first | (simp [go_sem]; done) | (simp [go_sem, KF5]; done) | (simp [go_sem, KF5, World.cell?_alloc_some]; done) | (simp [go_sem, KF5, frozen?_alloc_cells]; done)), keep_cell hb6 (by first | (simp [go_sem]; done) | (simp [go_sem, KF5]; done) | (simp [go_sem, KF5, World.cell?_alloc_some]; done) | (simp [go_sem, KF5, frozen?_alloc_cells]; done)), keep_cell hb6 (by first | (simp [go_sem]; done) | (simp [go_sem, KF5]; done) | (simp [go_sem, KF5, World.cell?_alloc_some]; done) | (simp [go_sem, KF5, frozen?_alloc_cells]; done))⟩; have KF6z0 : w.heap.size < w6.heap.size := World.block_lt_of_cell? _ _ KF6.1; have KF6z1 : w2.heap.size < w6.heap.size := World.block_lt_of_cell? _ _ KF6.2.2.2.1
  clear hb6 KF5
  go_wp2_with fail
  go_ret
  exact ⟨rfl, by go_grown⟩

set_option maxRecDepth 100000 in
set_option maxHeartbeats 1200000 in
theorem walk_yes1_t {w : World} {t N m : Nat} {s : Int} {l : List Bool} {a : Option Addr} {n c : Nat} {M : Nat} (HV1 : Hid (∀ (b : Option Addr) (d : Nat) (wx : World), Br wx b l → Calls Try.prog 6 #[.int .i64 s, .slice b n d] wx fun e w' => e = .returned (.tuple #[.agg #[.int .i64 s, .int .u64 (LO M), .int .u64 (HI M)], .int .i64 0]) ∧ Below wx.heap.size wx w')) (HWD : Hid (∀ wx, Below w.heap.size w wx → Calls Try.prog 9 #[.slice a n c] wx fun e w' => e = .returned (.agg #[.int .i64 s, .int .u64 (LO M), .int .u64 (HI M)]) ∧ Below wx.heap.size wx w')) (h1 : (1 : Int) ≤ s) (h0 : (0 : Int) < s) (hz : (s == 0) = false) (hne : ((n : Int) == s) = true) (hs : srt s = true) (hmt : (m : Int) = max (t : Int) 1) (HB : Hid (∀ wx, Calls Try.prog 11 #[.agg #[.int .i64 t, .int .u64 (LO (N)), .int .u64 (HI (N))]] wx fun e w' => ∃ g, e = .returned (.slice (some ⟨g, 0, none⟩) m m) ∧ Bs w' wx.heap.size (.slice (some ⟨g, 0, none⟩) m m) (bl m N) ∧ Below wx.heap.size wx w')) (HR : Hid (∀ wx, Calls Try.prog 12 #[.agg #[.int .i64 t, .int .u64 (LO (N)), .int .u64 (HI (N))]] wx fun e w' => e = .returned (.bool true) ∧ Below wx.heap.size wx w')) (HV : Hid (∀ g wx, (∀ j, j < m → wx.cell? ⟨g, 0 + j, none⟩ = some (.bool (N.testBit j))) → g < wx.heap.size → Calls Try.prog 6 #[.int .i64 (t : Int), .slice (some ⟨g, 0, none⟩) m m] wx fun e w' => e = .returned (.tuple #[.agg #[.int .i64 t, .int .u64 (LO (N)), .int .u64 (HI (N))], .int .i64 0]) ∧ Below wx.heap.size wx w')) (hl : Br w a l) (hn : n = l.length) (hm : n ≤ 200) :
    Calls Try.prog 3 #[.int .i64 s, .slice a n c, .agg #[.int .i64 (t : Int), .int .u64 (LO N), .int .u64 (HI N)]] w fun e w' => e = .returned (.bool true) ∧ Below w.heap.size w w' := by
  have hqe := eq_own
  have hqn := neq_own
  have hm9 : ¬ 200 < (n : Int) := by omega
  have HL : Hid (Br w a l) := hl
  have HN : Hid (n = l.length) := hn
  have HIS : Hid (∀ wx, Calls Try.prog 7 #[.int .i64 s] wx fun e w' => e = .returned (.bool true) ∧ Below wx.heap.size wx w') := fun wx => (refIs_any s wx).mono fun e w' h => ⟨by rw [← hs]; exact h.1, h.2 ▸ Below.refl _ _⟩
  have hm10 : n ≤ 1000 := by omega
  clear hl hn hs
  go_enter Try.func3, Try.ntmps3
  go_wp2_with fail
  refine (known_any _).mono ?_
  rintro e w1 ⟨rfl, hb1⟩
  have hb1' := below_step (w := w) (by go_grown) hb1
  have hs1 := hb1'.size
  have KF1 : w1.cell? ⟨w.heap.size, 0, none⟩ = some (.int .i64 (t : Int)) ∧ w1.cell? ⟨w.heap.size, 1, none⟩ = some (.int .u64 (LO N)) ∧ w1.cell? ⟨w.heap.size, 2, none⟩ = some (.int .u64 (HI N)) ∧ (∀ o, w1.frozen? ⟨w.heap.size, o, none⟩ = false) := ⟨keep_cell hb1 (by first | (simp [go_sem]; done)), keep_cell hb1 (by first | (simp [go_sem]; done)), keep_cell hb1 (by first | (simp [go_sem]; done)), keep_frozen2 hb1 (by first | (simp [go_sem]; done)) (by first | (simp [go_sem]; done))⟩; have KF1z0 : w.heap.size < w1.heap.size := World.block_lt_of_cell? _ _ KF1.1
  clear hb1
  go_wp2_with (at_builtin; refine wpList_app_br rfl _ _ rfl rfl a l c n rfl HN.out (HL.out.below hb1') (by have := HN.out; omega) ?_; intro b d wa hbr hba)
  have KFa : wa.cell? ⟨w.heap.size, 0, none⟩ = some (.int .i64 (t : Int)) ∧ wa.cell? ⟨w.heap.size, 1, none⟩ = some (.int .u64 (LO N)) ∧ wa.cell? ⟨w.heap.size, 2, none⟩ = some (.int .u64 (HI N)) ∧ (∀ o, wa.frozen? ⟨w.heap.size, o, none⟩ = false) := ⟨(hba.cell (p := ⟨w.heap.size, 0, none⟩) KF1z0).trans KF1.1, (hba.cell (p := ⟨w.heap.size, 1, none⟩) KF1z0).trans KF1.2.1, (hba.cell (p := ⟨w.heap.size, 2, none⟩) KF1z0).trans KF1.2.2.1, fun o => (hba.frozen (p := ⟨w.heap.size, o, none⟩) KF1z0).trans (KF1.2.2.2 o)⟩
  have hba' : Below w.heap.size w wa := hb1'.trans (hba.mono hs1)
  have hsa := hba'.size
  have KFaz0 : w.heap.size < wa.heap.size := Nat.lt_of_lt_of_le KF1z0 hba.size
  have HBR : Hid (Br wa b l) := hbr
  clear KF1 hba hbr
  go_wp2_with fail
  refine (HV1.out b d _ HBR.out).mono ?_
  rintro e w2 ⟨rfl, hb2⟩
  have hb2' := below_step (w := w) (by go_grown) hb2
  have hs2 := hb2'.size
  have hx2 : Below wa.heap.size wa w2 := hb2
  have KF2 : w2.cell? ⟨w.heap.size, 0, none⟩ = some (.int .i64 (t : Int)) ∧ w2.cell? ⟨w.heap.size, 1, none⟩ = some (.int .u64 (LO N)) ∧ w2.cell? ⟨w.heap.size, 2, none⟩ = some (.int .u64 (HI N)) ∧ (∀ o, w2.frozen? ⟨w.heap.size, o, none⟩ = false) := ⟨keep_cell hb2 (by first | (simp [go_sem]; done) | (simp [go_sem, KFa]; done) | (simp [go_sem, KFa, World.cell?_alloc_some]; done) | (simp [go_sem, KFa, frozen?_alloc_cells]; done)), keep_cell hb2 (by first | (simp [go_sem]; done) | (simp [go_sem, KFa]; done) | (simp [go_sem, KFa, World.cell?_alloc_some]; done) | (simp [go_sem, KFa, frozen?_alloc_cells]; done)), keep_cell hb2 (by first | (simp [go_sem]; done) | (simp [go_sem, KFa]; done) | (simp [go_sem, KFa, World.cell?_alloc_some]; done) | (simp [go_sem, KFa, frozen?_alloc_cells]; done)), keep_frozen2 hb2 (by first | (simp [go_sem]; done) | (simp [go_sem, KFa]; done) | (simp [go_sem, KFa, World.cell?_alloc_some]; done) | (simp [go_sem, KFa, frozen?_alloc_cells]; done)) (by first | (simp [go_sem]; done) | (simp [go_sem, KFa]; done) | (simp [go_sem, KFa, World.cell?_alloc_some]; done) | (simp [go_sem, KFa, frozen?_alloc_cells]; done))⟩; have KF2z0 : w.heap.size < w2.heap.size := World.block_lt_of_cell? _ _ KF2.1
  clear hb2 KFa
  go_wp2_with fail
  refine (HIS.out _).mono ?_
  rintro e w3 ⟨rfl, hb3⟩
  have hb3' := below_step (w := w) (by go_grown) hb3
  have hs3 := hb3'.size
  have hx3 : Below wa.heap.size wa w3 := (hx2.alloc hx2.size _).trans (hb3.mono (by have := hx2.size; simp; omega))
  have KF3 : w3.cell? ⟨w.heap.size, 0, none⟩ = some (.int .i64 (t : Int)) ∧ w3.cell? ⟨w.heap.size, 1, none⟩ = some (.int .u64 (LO N)) ∧ w3.cell? ⟨w.heap.size, 2, none⟩ = some (.int .u64 (HI N)) ∧ (∀ o, w3.frozen? ⟨w.heap.size, o, none⟩ = false) ∧ w3.cell? ⟨w2.heap.size, 0, none⟩ = some (.int .i64 s) ∧ w3.cell? ⟨w2.heap.size, 1, none⟩ = some (.int .u64 (LO M)) ∧ w3.cell? ⟨w2.heap.size, 2, none⟩ = some (.int .u64 (HI M)) ∧ (∀ o, w3.frozen? ⟨w2.heap.size, o, none⟩ = false) := ⟨keep_cell hb3 (by first | (simp [go_sem]; done) | (simp [go_sem, KF2]; done) | (simp [go_sem, KF2, World.cell?_alloc_some]; done) | (simp [go_sem, KF2, frozen?_alloc_cells]; done)), keep_cell hb3 (by first | (simp [go_sem]; done) | (simp [go_sem, KF2]; done) | (simp [go_sem, KF2, World.cell?_alloc_some]; done) | (simp [go_sem, KF2, frozen?_alloc_cells]; done)), keep_cell hb3 (by first | (simp [go_sem]; done) | (simp [go_sem, KF2]; done) | (simp [go_sem, KF2, World.cell?_alloc_some]; done) | (simp [go_sem, KF2, frozen?_alloc_cells]; done)), keep_frozen2 hb3 (by first | (simp [go_sem]; done) | (simp [go_sem, KF2]; done) | (simp [go_sem, KF2, World.cell?_alloc_some]; done) | (simp [go_sem, KF2, frozen?_alloc_cells]; done)) (by first | (simp [go_sem]; done) | (simp [go_sem, KF2]; done) | (simp [go_sem, KF2, World.cell?_alloc_some]; done) | (simp [go_sem, KF2, frozen?_alloc_cells]; done)), keep_cell hb3 (by first | (simp [go_sem]; done) | (simp [go_sem, KF2]; done) | (simp [go_sem, KF2, World.cell?_alloc_some]; done) | (simp [go_sem, KF2, frozen?_alloc_cells]; done)), keep_cell hb3 (by first | (simp [go_sem]; done) | (simp [go_sem, KF2]; done) | (simp [go_sem, KF2, World.cell?_alloc_some]; done) | (simp [go_sem, KF2, frozen?_alloc_cells]; done)), keep_cell hb3 (by first | (simp [go_sem]; done) | (simp [go_sem, KF2]; done) | (simp [go_sem, KF2, World.cell?_alloc_some]; done) | (simp [go_sem, KF2, frozen?_alloc_cells]; done)), keep_frozen2 hb3 (by first | (simp [go_sem]; done) | (simp [go_sem, KF2]; done) | (simp [go_sem, KF2, World.cell?_alloc_some]; done) | (simp [go_sem, KF2, frozen?_alloc_cells]; done)) (by first | (simp [go_sem]; done) | (simp [go_sem, KF2]; done) | (simp [go_sem, KF2, World.cell?_alloc_some]; done) | (simp [go_sem, KF2, frozen?_alloc_cells]; done))⟩; have KF3z0 : w.heap.size < w3.heap.size := World.block_lt_of_cell? _ _ KF3.1; have KF3z1 : w2.heap.size < w3.heap.size := World.block_lt_of_cell? _ _ KF3.2.2.2.2.1
  clear hb3 KF2
  go_wp2_with fail
  refine (bools_same (HBR.out.below hx3) (HL.out.below hb3') HN.out hm10).mono ?_
  rintro e w4 ⟨rfl, hb4⟩
  have hb4' := below_step (w := w) (by go_grown) hb4
  have hs4 := hb4'.size
  have KF4 : w4.cell? ⟨w.heap.size, 0, none⟩ = some (.int .i64 (t : Int)) ∧ w4.cell? ⟨w.heap.size, 1, none⟩ = some (.int .u64 (LO N)) ∧ w4.cell? ⟨w.heap.size, 2, none⟩ = some (.int .u64 (HI N)) ∧ (∀ o, w4.frozen? ⟨w.heap.size, o, none⟩ = false) ∧ w4.cell? ⟨w2.heap.size, 0, none⟩ = some (.int .i64 s) ∧ w4.cell? ⟨w2.heap.size, 1, none⟩ = some (.int .u64 (LO M)) ∧ w4.cell? ⟨w2.heap.size, 2, none⟩ = some (.int .u64 (HI M)) ∧ (∀ o, w4.frozen? ⟨w2.heap.size, o, none⟩ = false) := ⟨keep_cell hb4 (by first | (simp [go_sem]; done) | (simp [go_sem, KF3]; done) | (simp [go_sem, KF3, World.cell?_alloc_some]; done) | (simp [go_sem, KF3, frozen?_alloc_cells]; done)), keep_cell hb4 (by first | (simp [go_sem]; done) | (simp [go_sem, KF3]; done) | (simp [go_sem, KF3, World.cell?_alloc_some]; done) | (simp [go_sem, KF3, frozen?_alloc_cells]; done)), keep_cell hb4 (by first | (simp [go_sem]; done) | (simp [go_sem, KF3]; done) | (simp [go_sem, KF3, World.cell?_alloc_some]; done) | (simp [go_sem, KF3, frozen?_alloc_cells]; done)), keep_frozen2 hb4 (by first | (simp [go_sem]; done) | (simp [go_sem, KF3]; done) | (simp [go_sem, KF3, World.cell?_alloc_some]; done) | (simp [go_sem, KF3, frozen?_alloc_cells]; done)) (by first | (simp [go_sem]; done) | (simp [go_sem, KF3]; done) | (simp [go_sem, KF3, World.cell?_alloc_some]; done) | (simp [go_sem, KF3, frozen?_alloc_cells]; done)), keep_cell hb4 (by first | (simp [go_sem]; done) | (simp [go_sem, KF3]; done) | (simp [go_sem, KF3, World.cell?_alloc_some]; done) | (simp [go_sem, KF3, frozen?_alloc_cells]; done)), keep_cell hb4 (by first | (simp [go_sem]; done) | (simp [go_sem, KF3]; done) | (simp [go_sem, KF3, World.cell?_alloc_some]; done) | (simp [go_sem, KF3, frozen?_alloc_cells]; done)), keep_cell hb4 (by first | (simp [go_sem]; done) | (simp [go_sem, KF3]; done) | (simp [go_sem, KF3, World.cell?_alloc_some]; done) | (simp [go_sem, KF3, frozen?_alloc_cells]; done)), keep_frozen2 hb4 (by first | (simp [go_sem]; done) | (simp [go_sem, KF3]; done) | (simp [go_sem, KF3, World.cell?_alloc_some]; done) | (simp [go_sem, KF3, frozen?_alloc_cells]; done)) (by first | (simp [go_sem]; done) | (simp [go_sem, KF3]; done) | (simp [go_sem, KF3, World.cell?_alloc_some]; done) | (simp [go_sem, KF3, frozen?_alloc_cells]; done))⟩; have KF4z0 : w.heap.size < w4.heap.size := World.block_lt_of_cell? _ _ KF4.1; have KF4z1 : w2.heap.size < w4.heap.size := World.block_lt_of_cell? _ _ KF4.2.2.2.2.1
  clear hb4 KF3
  clear hx2 hx3
  go_wp2_with fail
  refine wp_named fun a0 ha0 => ?_
  have o0 := old_at ha0 (t := 0) rfl
  have o1 := old_at ha0 (t := 1) rfl
  have o8 := old_at ha0 (t := 8) rfl
  have o10 := old_at ha0 (t := 10) rfl
  refine wp_region_lin (S := SS w w4.heap.size [(w2.heap.size, [.int .i64 s, .int .u64 (LO M), .int .u64 (HI M)]), (w.heap.size, [.int .i64 (t : Int), .int .u64 (LO N), .int .u64 (HI N)])] []) [] (fun _ => 0) (by kernel_rfl) (by kernel_rfl) (by rw [← ha0]; kernel_rfl) (SS.start (by first | assumption | go_grown) ?_) ?_
  · intro p hp; simp only [List.mem_cons, List.not_mem_nil, or_false] at hp; rcases hp with rfl | rfl; all_goals exact ⟨At.three (by simp [KF4]) (by simp [KF4]) (by simp [KF4]), by simp⟩
  apply LinAll.cons0
  · intro g L a x hLi haft hS hK; have t10 := (hK.old 10 (by kernel_rfl)).trans o10; (try dsimp only at t10); refine go_in (wanted_all rfl) ?_; intro K hk; clear haft hK hLi; go_simp; exact hS.go hk rfl
  apply LinAll.cons0
  · intro g L a x hLi haft hS hK; have t54 := hK.new 0 0 _ 54 _ rfl rfl rfl (by kernel_rfl) (waits haft 0 (by kernel_rfl)); (try dsimp only at t54); refine go_in (wanted_all rfl) ?_; intro K hk; clear haft hK hLi; go_simp; exact hS.go hk rfl
  apply LinAll.cons0
  · intro g L a x hLi haft hS hK; have t0 := (hK.old 0 (by kernel_rfl)).trans o0; have tg := hK.new 1 0 _ 55 _ rfl rfl rfl (by kernel_rfl) (waits haft 1 (by kernel_rfl)); (try dsimp only at t0); refine go_in (wanted_at rfl rfl rfl tg rfl) ?_; intro K hk; clear haft hK tg hLi; go_simp; exact hS.go hk rfl
  apply LinAll.cons0
  · intro g L a x hLi haft hS hK; have t56 := hK.new 2 0 _ 56 _ rfl rfl rfl (by kernel_rfl) (waits haft 2 (by kernel_rfl)); have tg := hK.new 1 1 _ 55 _ rfl rfl rfl (by kernel_rfl) (waits haft 1 (by kernel_rfl)); (try dsimp only at t56); refine go_in (wanted_at rfl rfl rfl tg rfl) ?_; intro K hk; clear haft hK tg hLi; go_simp; exact hS.go hk rfl
  apply LinAll.cons0
  · intro g L a x hLi haft hS hK; have t57 := hK.new 3 0 _ 57 _ rfl rfl rfl (by kernel_rfl) (waits haft 3 (by kernel_rfl)); have tg := hK.new 1 2 _ 55 _ rfl rfl rfl (by kernel_rfl) (waits haft 1 (by kernel_rfl)); (try dsimp only at t57); refine go_in (wanted_at rfl rfl rfl tg rfl) ?_; intro K hk; clear haft hK tg hLi; go_simp; exact hS.go hk rfl
  apply LinAll.cons0
  · intro g L a x hLi haft hS hK; have t8 := (hK.old 8 (by kernel_rfl)).trans o8; have tg := hK.new 4 0 _ 58 _ rfl rfl rfl (by kernel_rfl) (waits haft 4 (by kernel_rfl)); (try dsimp only at t8); refine go_in (wanted_at rfl rfl rfl tg rfl) ?_; intro K hk; obtain ⟨c0, c1, c2⟩ := (hS.own _ (.head _)).2.get3; clear haft hK tg hLi; go_simp; exact hS.go hk rfl
  apply LinAll.cons0
  · intro g L a x hLi haft hS hK; have t1 := (hK.old 1 (by kernel_rfl)).trans o1; have tg := hK.new 4 1 _ 58 _ rfl rfl rfl (by kernel_rfl) (waits haft 4 (by kernel_rfl)); (try dsimp only at t1); refine go_in (wanted_at rfl rfl rfl tg rfl) ?_; intro K hk; clear haft hK tg hLi; go_simp; exact hS.go hk rfl
  apply LinAll.cons0
  · intro g L a x hLi haft hS hK; have t60 := hK.new 6 0 _ 60 _ rfl rfl rfl (by kernel_rfl) (waits haft 6 (by kernel_rfl)); have tg := hK.new 4 2 _ 58 _ rfl rfl rfl (by kernel_rfl) (waits haft 4 (by kernel_rfl)); (try dsimp only at t60); refine go_in (wanted_at rfl rfl rfl tg rfl) ?_; intro K hk; clear haft hK tg hLi; go_simp; refine (HWD.out _ hS.below).mono ?_; rintro e y ⟨rfl, hb⟩; exact hS.on hk hb rfl
  apply LinAll.cons0
  · intro g L a x hLi haft hS hK; have t59 := hK.new 5 2 _ 59 _ rfl rfl rfl (by kernel_rfl) (waits haft 5 (by kernel_rfl)); have t61 := hK.new 7 0 _ 61 _ rfl rfl rfl (by kernel_rfl) (waits haft 7 (by kernel_rfl)); have tg := hK.new 4 3 _ 58 _ rfl rfl rfl (by kernel_rfl) (waits haft 4 (by kernel_rfl)); (try dsimp only at t59 t61); refine go_in (wanted_at rfl rfl rfl tg rfl) ?_; intro K hk; clear haft hK tg hLi; go_simp; exact hS.go hk rfl
  apply LinAll.cons0
  · intro g L a x hLi haft hS hK; have t58 := hK.new 4 4 _ 58 _ rfl rfl rfl (by kernel_rfl) (waits haft 4 (by kernel_rfl)); have t62 := hK.new 8 0 _ 62 _ rfl rfl rfl (by kernel_rfl) (waits haft 8 (by kernel_rfl)); have tg := hK.new 1 7 _ 55 _ rfl rfl rfl (by kernel_rfl) (waits haft 1 (by kernel_rfl)); (try dsimp only at t58 t62); refine go_in (wanted_at rfl rfl rfl tg rfl) ?_; intro K hk; clear haft hK tg hLi; go_simp; exact hS.go hk rfl
  apply LinAll.cons0
  · intro g L a x hLi haft hS hK; have t63 := hK.new 9 0 _ 63 _ rfl rfl rfl (by kernel_rfl) (waits haft 9 (by kernel_rfl)); have tg := hK.new 1 8 _ 55 _ rfl rfl rfl (by kernel_rfl) (waits haft 1 (by kernel_rfl)); (try dsimp only at t63); refine go_in (wanted_at rfl rfl rfl tg rfl) ?_; intro K hk; clear haft hK tg hLi; go_simp; exact hS.go hk rfl
  apply LinAll.cons0
  · intro g L a x hLi haft hS hK; have t0 := (hK.old 0 (by kernel_rfl)).trans o0; have tg := hK.new 10 0 _ 64 _ rfl rfl rfl (by kernel_rfl) (waits haft 10 (by kernel_rfl)); (try dsimp only at t0); refine go_in (wanted_at rfl rfl rfl tg rfl) ?_; intro K hk; clear haft hK tg hLi; go_simp; exact hS.go hk rfl
  apply LinAll.cons0
  · intro g L a x hLi haft hS hK; have t65 := hK.new 11 0 _ 65 _ rfl rfl rfl (by kernel_rfl) (waits haft 11 (by kernel_rfl)); have tg := hK.new 10 1 _ 64 _ rfl rfl rfl (by kernel_rfl) (waits haft 10 (by kernel_rfl)); (try dsimp only at t65); refine go_in (wanted_at rfl rfl rfl tg rfl) ?_; intro K hk; clear haft hK tg hLi; go_simp; exact hS.go hk rfl
  apply LinAll.cons0
  · intro g L a x hLi haft hS hK; have t66 := hK.new 12 0 _ 66 _ rfl rfl rfl (by kernel_rfl) (waits haft 12 (by kernel_rfl)); have tg := hK.new 10 2 _ 64 _ rfl rfl rfl (by kernel_rfl) (waits haft 10 (by kernel_rfl)); (try dsimp only at t66); refine go_in (wanted_at rfl rfl rfl tg rfl) ?_; intro K hk; clear haft hK tg hLi; go_simp; exact hS.go hk rfl
  apply LinAll.cons0
  · intro g L a x hLi haft hS hK; have t8 := (hK.old 8 (by kernel_rfl)).trans o8; have tg := hK.new 13 0 _ 67 _ rfl rfl rfl (by kernel_rfl) (waits haft 13 (by kernel_rfl)); (try dsimp only at t8); exact go_out (wanted_at rfl rfl rfl tg rfl) ⟨rfl, hS.same rfl⟩
  apply LinAll.cons0
  · intro g L a x hLi haft hS hK; have t1 := (hK.old 1 (by kernel_rfl)).trans o1; have tg := hK.new 13 1 _ 67 _ rfl rfl rfl (by kernel_rfl) (waits haft 13 (by kernel_rfl)); (try dsimp only at t1); exact go_out (wanted_at rfl rfl rfl tg rfl) ⟨rfl, hS.same rfl⟩
  apply LinAll.cons0
  · intro g L a x hLi haft hS hK; have t69 := hK.new 15 0 _ 69 _ rfl rfl rfl (by kernel_rfl) (waits haft 15 (by kernel_rfl)); have tg := hK.new 13 2 _ 67 _ rfl rfl rfl (by kernel_rfl) (waits haft 13 (by kernel_rfl)); (try dsimp only at t69); exact go_out (wanted_at rfl rfl rfl tg rfl) ⟨rfl, hS.same rfl⟩
  apply LinAll.cons0
  · intro g L a x hLi haft hS hK; have t70 := hK.new 16 0 _ 70 _ rfl rfl rfl (by kernel_rfl) (waits haft 16 (by kernel_rfl)); have tg := hK.new 13 3 _ 67 _ rfl rfl rfl (by kernel_rfl) (waits haft 13 (by kernel_rfl)); (try dsimp only at t70); exact go_out (wanted_at rfl rfl rfl tg rfl) ⟨rfl, hS.same rfl⟩
  apply LinAll.cons0
  · intro g L a x hLi haft hS hK; have t71 := hK.new 17 0 _ 71 _ rfl rfl rfl (by kernel_rfl) (waits haft 17 (by kernel_rfl)); have tg := hK.new 13 4 _ 67 _ rfl rfl rfl (by kernel_rfl) (waits haft 13 (by kernel_rfl)); (try dsimp only at t71); exact go_out (wanted_at rfl rfl rfl tg rfl) ⟨rfl, hS.same rfl⟩
  apply LinAll.cons0
  · intro g L a x hLi haft hS hK; have t68 := hK.new 14 4 _ 68 _ rfl rfl rfl (by kernel_rfl) (waits haft 14 (by kernel_rfl)); have t72 := hK.new 18 0 _ 72 _ rfl rfl rfl (by kernel_rfl) (waits haft 18 (by kernel_rfl)); have tg := hK.new 13 5 _ 67 _ rfl rfl rfl (by kernel_rfl) (waits haft 13 (by kernel_rfl)); (try dsimp only at t68 t72); exact go_out (wanted_at rfl rfl rfl tg rfl) ⟨rfl, hS.same rfl⟩
  apply LinAll.cons0
  · intro g L a x hLi haft hS hK; have t67 := hK.new 13 6 _ 67 _ rfl rfl rfl (by kernel_rfl) (waits haft 13 (by kernel_rfl)); have t73 := hK.new 19 0 _ 73 _ rfl rfl rfl (by kernel_rfl) (waits haft 19 (by kernel_rfl)); have tg := hK.new 10 9 _ 64 _ rfl rfl rfl (by kernel_rfl) (waits haft 10 (by kernel_rfl)); (try dsimp only at t67 t73); refine go_in (wanted_at rfl rfl rfl tg rfl) ?_; intro K hk; clear haft hK tg hLi; go_simp; exact hS.go hk rfl
  apply LinAll.cons0
  · intro g L a x hLi haft hS hK; have t64 := hK.new 10 10 _ 64 _ rfl rfl rfl (by kernel_rfl) (waits haft 10 (by kernel_rfl)); have t74 := hK.new 20 0 _ 74 _ rfl rfl rfl (by kernel_rfl) (waits haft 20 (by kernel_rfl)); have tg := hK.new 1 19 _ 55 _ rfl rfl rfl (by kernel_rfl) (waits haft 1 (by kernel_rfl)); (try dsimp only at t64 t74); refine go_in (wanted_at rfl rfl rfl tg rfl) ?_; intro K hk; clear haft hK tg hLi; go_simp; exact hS.go hk rfl
  apply LinAll.cons0
  · intro g L a x hLi haft hS hK; have t55 := hK.new 1 20 _ 55 _ rfl rfl rfl (by kernel_rfl) (waits haft 1 (by kernel_rfl)); have t75 := hK.new 21 0 _ 75 _ rfl rfl rfl (by kernel_rfl) (waits haft 21 (by kernel_rfl)); (try dsimp only at t55 t75); refine go_in (wanted_all rfl) ?_; intro K hk; clear haft hK hLi; go_simp; exact hS.go hk rfl
  refine LinAll.nil fun g x hS => ?_
  subst ha0
  simp only [Act.put, List.setIfInBounds_toArray, List.set_cons_zero, List.set_cons_succ]
  clear o0 o1 o8 o10
  have KL := And.intro (hS.own _ (.head _)).2.get3 (hS.own _ (.tail _ (.head _))).2.get3
  have hBq := hS.below
  have hBs := hBq.size
  clear hS
  clear KF4
  go_wp2_with fail
  refine (HB.out _).mono ?_
  rintro e w5 ⟨g, rfl, hB, hb5⟩
  have hb5' := below_step (w := w) (by go_grown) hb5
  have hs5 := hb5'.size
  have HG : Hid (∀ j, j < m → w5.cell? ⟨g, 0 + j, none⟩ = some (.bool (N.testBit j))) := (fun j hj => by rw [Nat.zero_add]; exact Bs.cell hB (bl_len m N).symm (bl_get hj)); have hgl := (Bs.lt hB).2; have hx5 := Below.refl w5.heap.size w5; clear hB
  have KF5 : w5.cell? ⟨w.heap.size, 0, none⟩ = some (.int .i64 (t : Int)) ∧ w5.cell? ⟨w.heap.size, 1, none⟩ = some (.int .u64 (LO N)) ∧ w5.cell? ⟨w.heap.size, 2, none⟩ = some (.int .u64 (HI N)) ∧ w5.cell? ⟨w2.heap.size, 0, none⟩ = some (.int .i64 s) ∧ w5.cell? ⟨w2.heap.size, 1, none⟩ = some (.int .u64 (LO M)) ∧ w5.cell? ⟨w2.heap.size, 2, none⟩ = some (.int .u64 (HI M)) := ⟨keep_cell hb5 (by first | (simp [go_sem]; done) | (simp [go_sem, KL]; done) | (simp [go_sem, KL, World.cell?_alloc_some]; done) | (simp [go_sem, KL, frozen?_alloc_cells]; done)), keep_cell hb5 (by first | (simp [go_sem]; done) | (simp [go_sem, KL]; done) | (simp [go_sem, KL, World.cell?_alloc_some]; done) | (simp [go_sem, KL, frozen?_alloc_cells]; done)), keep_cell hb5 (by first | (simp [go_sem]; done) | (simp [go_sem, KL]; done) | (simp [go_sem, KL, World.cell?_alloc_some]; done) | (simp [go_sem, KL, frozen?_alloc_cells]; done)), keep_cell hb5 (by first | (simp [go_sem]; done) | (simp [go_sem, KL]; done) | (simp [go_sem, KL, World.cell?_alloc_some]; done) | (simp [go_sem, KL, frozen?_alloc_cells]; done)), keep_cell hb5 (by first | (simp [go_sem]; done) | (simp [go_sem, KL]; done) | (simp [go_sem, KL, World.cell?_alloc_some]; done) | (simp [go_sem, KL, frozen?_alloc_cells]; done)), keep_cell hb5 (by first | (simp [go_sem]; done) | (simp [go_sem, KL]; done) | (simp [go_sem, KL, World.cell?_alloc_some]; done) | (simp [go_sem, KL, frozen?_alloc_cells]; done))⟩; have KF5z0 : w.heap.size < w5.heap.size := World.block_lt_of_cell? _ _ KF5.1; have KF5z1 : w2.heap.size < w5.heap.size := World.block_lt_of_cell? _ _ KF5.2.2.2.1
  clear hb5 KL
  go_wp2_with fail
  refine (HR.out _).mono ?_
  rintro e w6 ⟨rfl, hb6⟩
  have hb6' := below_step (w := w) (by go_grown) hb6
  have hs6 := hb6'.size
  have hx6 : Below w5.heap.size w5 w6 := hb6; have hgl6 : g < w6.heap.size := Nat.lt_of_lt_of_le hgl hb6.size
  have KF6 : w6.cell? ⟨w.heap.size, 0, none⟩ = some (.int .i64 (t : Int)) ∧ w6.cell? ⟨w.heap.size, 1, none⟩ = some (.int .u64 (LO N)) ∧ w6.cell? ⟨w.heap.size, 2, none⟩ = some (.int .u64 (HI N)) ∧ w6.cell? ⟨w2.heap.size, 0, none⟩ = some (.int .i64 s) ∧ w6.cell? ⟨w2.heap.size, 1, none⟩ = some (.int .u64 (LO M)) ∧ w6.cell? ⟨w2.heap.size, 2, none⟩ = some (.int .u64 (HI M)) := ⟨keep_cell hb6 (by first | (simp [go_sem]; done) | (simp [go_sem, KF5]; done) | (simp [go_sem, KF5, World.cell?_alloc_some]; done) | (simp [go_sem, KF5, frozen?_alloc_cells]; done)), keep_cell hb6 (by first | (simp [go_sem]; done) | (simp [go_sem, KF5]; done) | (simp [go_sem, KF5, World.cell?_alloc_some]; done) | (simp [go_sem, KF5, frozen?_alloc_cells]; done)), keep_cell hb6 (by first | (simp [go_sem]; done) | (simp [go_sem, KF5]; done) | (simp [go_sem, KF5, World.cell?_alloc_some]; done) | (simp [go_sem, KF5, frozen?_alloc_cells]; done)), keep_cell hb6 (by first | (simp [go_sem]; done) | (simp [go_sem, KF5]; done) | (simp [go_sem, KF5, World.cell?_alloc_some]; done) | (simp [go_sem, KF5, frozen?_alloc_cells]; done)), keep_cell hb6 (by first | (simp [go_sem]; done) | (simp [go_sem, KF5]; done) | (simp [go_sem, KF5, World.cell?_alloc_some]; done) | (simp [go_sem, KF5, frozen?_alloc_cells]; done)), keep_cell hb6 (by first | (simp [go_sem]; done) | (simp [go_sem, KF5]; done) | (simp [go_sem, KF5, World.cell?_alloc_some]; done) | (simp [go_sem, KF5, frozen?_alloc_cells]; done))⟩; have KF6z0 : w.heap.size < w6.heap.size := World.block_lt_of_cell? _ _ KF6.1; have KF6z1 : w2.heap.size < w6.heap.size := World.block_lt_of_cell? _ _ KF6.2.2.2.1
  clear hb6 KF5
  go_wp2_with fail
  refine (HV.out g w6 (fun j hj => (hx6.cell (p := ⟨g, 0 + j, none⟩) hgl).trans (HG.out j hj)) hgl6).mono ?_
  rintro e w7 ⟨rfl, hb7⟩
  have hb7' := below_step (w := w) (by go_grown) hb7
  have hs7 := hb7'.size
  have KF7 : w7.cell? ⟨w.heap.size, 0, none⟩ = some (.int .i64 (t : Int)) ∧ w7.cell? ⟨w.heap.size, 1, none⟩ = some (.int .u64 (LO N)) ∧ w7.cell? ⟨w.heap.size, 2, none⟩ = some (.int .u64 (HI N)) ∧ w7.cell? ⟨w2.heap.size, 0, none⟩ = some (.int .i64 s) ∧ w7.cell? ⟨w2.heap.size, 1, none⟩ = some (.int .u64 (LO M)) ∧ w7.cell? ⟨w2.heap.size, 2, none⟩ = some (.int .u64 (HI M)) := ⟨keep_cell hb7 (by first | (simp [go_sem]; done) | (simp [go_sem, KF6]; done) | (simp [go_sem, KF6, World.cell?_alloc_some]; done) | (simp [go_sem, KF6, frozen?_alloc_cells]; done)), keep_cell hb7 (by first | (simp [go_sem]; done) | (simp [go_sem, KF6]; done) | (simp [go_sem, KF6, World.cell?_alloc_some]; done) | (simp [go_sem, KF6, frozen?_alloc_cells]; done)), keep_cell hb7 (by first | (simp [go_sem]; done) | (simp [go_sem, KF6]; done) | (simp [go_sem, KF6, World.cell?_alloc_some]; done) | (simp [go_sem, KF6, frozen?_alloc_cells]; done)), keep_cell hb7 (by first | (simp [go_sem]; done) | (simp [go_sem, KF6]; done) | (simp [go_sem, KF6, World.cell?_alloc_some]; done) | (simp [go_sem, KF6, frozen?_alloc_cells]; done)), keep_cell hb7 (by first | (simp [go_sem]; done) | (simp [go_sem, KF6]; done) | (simp [go_sem, KF6, World.cell?_alloc_some]; done) | (simp [go_sem, KF6, frozen?_alloc_cells]; done)), keep_cell hb7 (by first | (simp [go_sem]; done) | (simp [go_sem, KF6]; done) | (simp [go_sem, KF6, World.cell?_alloc_some]; done) | (simp [go_sem, KF6, frozen?_alloc_cells]; done))⟩; have KF7z0 : w.heap.size < w7.heap.size := World.block_lt_of_cell? _ _ KF7.1; have KF7z1 : w2.heap.size < w7.heap.size := World.block_lt_of_cell? _ _ KF7.2.2.2.1
  clear hb7 KF6
  clear hx6 hgl6 hgl HG
  go_wp2_with fail
  all_goals first | (exfalso; omega) | (go_ret; exact ⟨rfl, by go_grown⟩)

set_option maxRecDepth 100000 in
set_option maxHeartbeats 1200000 in
theorem walk_yes2_f {w : World} {g o : Nat} {bx : Bool} {A lo hi : Int} {l : List Bool} {c : Nat} {M : Nat} (HV1 : Hid (∀ (b : Option Addr) (d : Nat) (wx : World), Br wx b l → Calls Try.prog 6 #[.int .i64 0, .slice b 1 d] wx fun e w' => e = .returned (.tuple #[.agg #[.int .i64 0, .int .u64 (LO M), .int .u64 (HI M)], .int .i64 0]) ∧ Below wx.heap.size wx w')) (HBO : Hid (∀ wx, Calls Try.prog 10 #[.bool bx] wx fun e w' => e = .returned (.agg #[.int .i64 0, .int .u64 (LO M), .int .u64 (HI M)]) ∧ Below wx.heap.size wx w')) (HC : Hid (∀ wx, Below w.heap.size w wx → wx.cell? ⟨g, o, none⟩ = some (.bool bx))) (hs : srt 0 = true) (HB : Hid (∀ wx, Calls Try.prog 11 #[.agg #[.int .i64 A, .int .u64 lo, .int .u64 hi]] wx fun e w' => e = .returned (.slice none 0 0) ∧ Below wx.heap.size wx w')) (HR : Hid (∀ wx, Calls Try.prog 12 #[.agg #[.int .i64 A, .int .u64 lo, .int .u64 hi]] wx fun e w' => e = .returned (.bool false) ∧ Below wx.heap.size wx w')) (hl : Br w (some ⟨g, o, none⟩) l) (hn : 1 = l.length)  :
    Calls Try.prog 3 #[.int .i64 0, .slice (some ⟨g, o, none⟩) 1 c, .agg #[.int .i64 A, .int .u64 lo, .int .u64 hi]] w fun e w' => e = .returned (.bool true) ∧ Below w.heap.size w w' := by
  have hqe := eq_own
  have hqn := neq_own
  have HL : Hid (Br w (some ⟨g, o, none⟩) l) := hl
  have HN : Hid (1 = l.length) := hn
  have HIS : Hid (∀ wx, Calls Try.prog 7 #[.int .i64 0] wx fun e w' => e = .returned (.bool true) ∧ Below wx.heap.size wx w') := fun wx => (refIs_any 0 wx).mono fun e w' h => ⟨by rw [← hs]; exact h.1, h.2 ▸ Below.refl _ _⟩
  have hm10 : (1 : Nat) ≤ 1000 := by omega
  clear hl hn hs
  go_enter Try.func3, Try.ntmps3
  go_wp2_with fail
  refine (known_any _).mono ?_
  rintro e w1 ⟨rfl, hb1⟩
  have hb1' := below_step (w := w) (by go_grown) hb1
  have hs1 := hb1'.size
  have KF1 : w1.cell? ⟨w.heap.size, 0, none⟩ = some (.int .i64 A) ∧ w1.cell? ⟨w.heap.size, 1, none⟩ = some (.int .u64 lo) ∧ w1.cell? ⟨w.heap.size, 2, none⟩ = some (.int .u64 hi) ∧ (∀ o, w1.frozen? ⟨w.heap.size, o, none⟩ = false) := ⟨keep_cell hb1 (by first | (simp [go_sem]; done)), keep_cell hb1 (by first | (simp [go_sem]; done)), keep_cell hb1 (by first | (simp [go_sem]; done)), keep_frozen2 hb1 (by first | (simp [go_sem]; done)) (by first | (simp [go_sem]; done))⟩; have KF1z0 : w.heap.size < w1.heap.size := World.block_lt_of_cell? _ _ KF1.1
  clear hb1
  go_wp2_with (at_builtin; refine wpList_app_br rfl _ _ rfl rfl (some ⟨g, o, none⟩) l c 1 rfl HN.out (HL.out.below hb1') (by have := HN.out; omega) ?_; intro b d wa hbr hba)
  have KFa : wa.cell? ⟨w.heap.size, 0, none⟩ = some (.int .i64 A) ∧ wa.cell? ⟨w.heap.size, 1, none⟩ = some (.int .u64 lo) ∧ wa.cell? ⟨w.heap.size, 2, none⟩ = some (.int .u64 hi) ∧ (∀ o, wa.frozen? ⟨w.heap.size, o, none⟩ = false) := ⟨(hba.cell (p := ⟨w.heap.size, 0, none⟩) KF1z0).trans KF1.1, (hba.cell (p := ⟨w.heap.size, 1, none⟩) KF1z0).trans KF1.2.1, (hba.cell (p := ⟨w.heap.size, 2, none⟩) KF1z0).trans KF1.2.2.1, fun o => (hba.frozen (p := ⟨w.heap.size, o, none⟩) KF1z0).trans (KF1.2.2.2 o)⟩
  have hba' : Below w.heap.size w wa := hb1'.trans (hba.mono hs1)
  have hsa := hba'.size
  have KFaz0 : w.heap.size < wa.heap.size := Nat.lt_of_lt_of_le KF1z0 hba.size
  have HBR : Hid (Br wa b l) := hbr
  clear KF1 hba hbr
  go_wp2_with fail
  refine (HV1.out b d _ HBR.out).mono ?_
  rintro e w2 ⟨rfl, hb2⟩
  have hb2' := below_step (w := w) (by go_grown) hb2
  have hs2 := hb2'.size
  have hx2 : Below wa.heap.size wa w2 := hb2
  have KF2 : w2.cell? ⟨w.heap.size, 0, none⟩ = some (.int .i64 A) ∧ w2.cell? ⟨w.heap.size, 1, none⟩ = some (.int .u64 lo) ∧ w2.cell? ⟨w.heap.size, 2, none⟩ = some (.int .u64 hi) ∧ (∀ o, w2.frozen? ⟨w.heap.size, o, none⟩ = false) := ⟨keep_cell hb2 (by first | (simp [go_sem]; done) | (simp [go_sem, KFa]; done) | (simp [go_sem, KFa, World.cell?_alloc_some]; done) | (simp [go_sem, KFa, frozen?_alloc_cells]; done)), keep_cell hb2 (by first | (simp [go_sem]; done) | (simp [go_sem, KFa]; done) | (simp [go_sem, KFa, World.cell?_alloc_some]; done) | (simp [go_sem, KFa, frozen?_alloc_cells]; done)), keep_cell hb2 (by first | (simp [go_sem]; done) | (simp [go_sem, KFa]; done) | (simp [go_sem, KFa, World.cell?_alloc_some]; done) | (simp [go_sem, KFa, frozen?_alloc_cells]; done)), keep_frozen2 hb2 (by first | (simp [go_sem]; done) | (simp [go_sem, KFa]; done) | (simp [go_sem, KFa, World.cell?_alloc_some]; done) | (simp [go_sem, KFa, frozen?_alloc_cells]; done)) (by first | (simp [go_sem]; done) | (simp [go_sem, KFa]; done) | (simp [go_sem, KFa, World.cell?_alloc_some]; done) | (simp [go_sem, KFa, frozen?_alloc_cells]; done))⟩; have KF2z0 : w.heap.size < w2.heap.size := World.block_lt_of_cell? _ _ KF2.1
  clear hb2 KFa
  go_wp2_with fail
  refine (HIS.out _).mono ?_
  rintro e w3 ⟨rfl, hb3⟩
  have hb3' := below_step (w := w) (by go_grown) hb3
  have hs3 := hb3'.size
  have hx3 : Below wa.heap.size wa w3 := (hx2.alloc hx2.size _).trans (hb3.mono (by have := hx2.size; simp; omega))
  have KF3 : w3.cell? ⟨w.heap.size, 0, none⟩ = some (.int .i64 A) ∧ w3.cell? ⟨w.heap.size, 1, none⟩ = some (.int .u64 lo) ∧ w3.cell? ⟨w.heap.size, 2, none⟩ = some (.int .u64 hi) ∧ (∀ o, w3.frozen? ⟨w.heap.size, o, none⟩ = false) ∧ w3.cell? ⟨w2.heap.size, 0, none⟩ = some (.int .i64 0) ∧ w3.cell? ⟨w2.heap.size, 1, none⟩ = some (.int .u64 (LO M)) ∧ w3.cell? ⟨w2.heap.size, 2, none⟩ = some (.int .u64 (HI M)) ∧ (∀ o, w3.frozen? ⟨w2.heap.size, o, none⟩ = false) := ⟨keep_cell hb3 (by first | (simp [go_sem]; done) | (simp [go_sem, KF2]; done) | (simp [go_sem, KF2, World.cell?_alloc_some]; done) | (simp [go_sem, KF2, frozen?_alloc_cells]; done)), keep_cell hb3 (by first | (simp [go_sem]; done) | (simp [go_sem, KF2]; done) | (simp [go_sem, KF2, World.cell?_alloc_some]; done) | (simp [go_sem, KF2, frozen?_alloc_cells]; done)), keep_cell hb3 (by first | (simp [go_sem]; done) | (simp [go_sem, KF2]; done) | (simp [go_sem, KF2, World.cell?_alloc_some]; done) | (simp [go_sem, KF2, frozen?_alloc_cells]; done)), keep_frozen2 hb3 (by first | (simp [go_sem]; done) | (simp [go_sem, KF2]; done) | (simp [go_sem, KF2, World.cell?_alloc_some]; done) | (simp [go_sem, KF2, frozen?_alloc_cells]; done)) (by first | (simp [go_sem]; done) | (simp [go_sem, KF2]; done) | (simp [go_sem, KF2, World.cell?_alloc_some]; done) | (simp [go_sem, KF2, frozen?_alloc_cells]; done)), keep_cell hb3 (by first | (simp [go_sem]; done) | (simp [go_sem, KF2]; done) | (simp [go_sem, KF2, World.cell?_alloc_some]; done) | (simp [go_sem, KF2, frozen?_alloc_cells]; done)), keep_cell hb3 (by first | (simp [go_sem]; done) | (simp [go_sem, KF2]; done) | (simp [go_sem, KF2, World.cell?_alloc_some]; done) | (simp [go_sem, KF2, frozen?_alloc_cells]; done)), keep_cell hb3 (by first | (simp [go_sem]; done) | (simp [go_sem, KF2]; done) | (simp [go_sem, KF2, World.cell?_alloc_some]; done) | (simp [go_sem, KF2, frozen?_alloc_cells]; done)), keep_frozen2 hb3 (by first | (simp [go_sem]; done) | (simp [go_sem, KF2]; done) | (simp [go_sem, KF2, World.cell?_alloc_some]; done) | (simp [go_sem, KF2, frozen?_alloc_cells]; done)) (by first | (simp [go_sem]; done) | (simp [go_sem, KF2]; done) | (simp [go_sem, KF2, World.cell?_alloc_some]; done) | (simp [go_sem, KF2, frozen?_alloc_cells]; done))⟩; have KF3z0 : w.heap.size < w3.heap.size := World.block_lt_of_cell? _ _ KF3.1; have KF3z1 : w2.heap.size < w3.heap.size := World.block_lt_of_cell? _ _ KF3.2.2.2.2.1
  clear hb3 KF2
  go_wp2_with fail
  refine (bools_same (HBR.out.below hx3) (HL.out.below hb3') HN.out hm10).mono ?_
  rintro e w4 ⟨rfl, hb4⟩
  have hb4' := below_step (w := w) (by go_grown) hb4
  have hs4 := hb4'.size
  have KF4 : w4.cell? ⟨w.heap.size, 0, none⟩ = some (.int .i64 A) ∧ w4.cell? ⟨w.heap.size, 1, none⟩ = some (.int .u64 lo) ∧ w4.cell? ⟨w.heap.size, 2, none⟩ = some (.int .u64 hi) ∧ (∀ o, w4.frozen? ⟨w.heap.size, o, none⟩ = false) ∧ w4.cell? ⟨w2.heap.size, 0, none⟩ = some (.int .i64 0) ∧ w4.cell? ⟨w2.heap.size, 1, none⟩ = some (.int .u64 (LO M)) ∧ w4.cell? ⟨w2.heap.size, 2, none⟩ = some (.int .u64 (HI M)) ∧ (∀ o, w4.frozen? ⟨w2.heap.size, o, none⟩ = false) := ⟨keep_cell hb4 (by first | (simp [go_sem]; done) | (simp [go_sem, KF3]; done) | (simp [go_sem, KF3, World.cell?_alloc_some]; done) | (simp [go_sem, KF3, frozen?_alloc_cells]; done)), keep_cell hb4 (by first | (simp [go_sem]; done) | (simp [go_sem, KF3]; done) | (simp [go_sem, KF3, World.cell?_alloc_some]; done) | (simp [go_sem, KF3, frozen?_alloc_cells]; done)), keep_cell hb4 (by first | (simp [go_sem]; done) | (simp [go_sem, KF3]; done) | (simp [go_sem, KF3, World.cell?_alloc_some]; done) | (simp [go_sem, KF3, frozen?_alloc_cells]; done)), keep_frozen2 hb4 (by first | (simp [go_sem]; done) | (simp [go_sem, KF3]; done) | (simp [go_sem, KF3, World.cell?_alloc_some]; done) | (simp [go_sem, KF3, frozen?_alloc_cells]; done)) (by first | (simp [go_sem]; done) | (simp [go_sem, KF3]; done) | (simp [go_sem, KF3, World.cell?_alloc_some]; done) | (simp [go_sem, KF3, frozen?_alloc_cells]; done)), keep_cell hb4 (by first | (simp [go_sem]; done) | (simp [go_sem, KF3]; done) | (simp [go_sem, KF3, World.cell?_alloc_some]; done) | (simp [go_sem, KF3, frozen?_alloc_cells]; done)), keep_cell hb4 (by first | (simp [go_sem]; done) | (simp [go_sem, KF3]; done) | (simp [go_sem, KF3, World.cell?_alloc_some]; done) | (simp [go_sem, KF3, frozen?_alloc_cells]; done)), keep_cell hb4 (by first | (simp [go_sem]; done) | (simp [go_sem, KF3]; done) | (simp [go_sem, KF3, World.cell?_alloc_some]; done) | (simp [go_sem, KF3, frozen?_alloc_cells]; done)), keep_frozen2 hb4 (by first | (simp [go_sem]; done) | (simp [go_sem, KF3]; done) | (simp [go_sem, KF3, World.cell?_alloc_some]; done) | (simp [go_sem, KF3, frozen?_alloc_cells]; done)) (by first | (simp [go_sem]; done) | (simp [go_sem, KF3]; done) | (simp [go_sem, KF3, World.cell?_alloc_some]; done) | (simp [go_sem, KF3, frozen?_alloc_cells]; done))⟩; have KF4z0 : w.heap.size < w4.heap.size := World.block_lt_of_cell? _ _ KF4.1; have KF4z1 : w2.heap.size < w4.heap.size := World.block_lt_of_cell? _ _ KF4.2.2.2.2.1
  clear hb4 KF3
  clear hx2 hx3
  go_wp2_with fail
  refine wp_named fun a0 ha0 => ?_
  have o0 := old_at ha0 (t := 0) rfl
  have o1 := old_at ha0 (t := 1) rfl
  have o8 := old_at ha0 (t := 8) rfl
  have o10 := old_at ha0 (t := 10) rfl
  refine wp_region_lin (S := SS w w4.heap.size [(w2.heap.size, [.int .i64 0, .int .u64 (LO M), .int .u64 (HI M)]), (w.heap.size, [.int .i64 A, .int .u64 lo, .int .u64 hi])] []) [] (fun _ => 0) (by kernel_rfl) (by kernel_rfl) (by rw [← ha0]; kernel_rfl) (SS.start (by first | assumption | go_grown) ?_) ?_
  · intro p hp; simp only [List.mem_cons, List.not_mem_nil, or_false] at hp; rcases hp with rfl | rfl; all_goals exact ⟨At.three (by simp [KF4]) (by simp [KF4]) (by simp [KF4]), by simp⟩
  apply LinAll.cons0
  · intro g L a x hLi haft hS hK; have t10 := (hK.old 10 (by kernel_rfl)).trans o10; (try dsimp only at t10); refine go_in (wanted_all rfl) ?_; intro K hk; clear haft hK hLi; go_simp; exact hS.go hk rfl
  apply LinAll.cons0
  · intro g L a x hLi haft hS hK; have t54 := hK.new 0 0 _ 54 _ rfl rfl rfl (by kernel_rfl) (waits haft 0 (by kernel_rfl)); (try dsimp only at t54); refine go_in (wanted_all rfl) ?_; intro K hk; clear haft hK hLi; go_simp; exact hS.go hk rfl
  apply LinAll.cons0
  · intro g L a x hLi haft hS hK; have t0 := (hK.old 0 (by kernel_rfl)).trans o0; have tg := hK.new 1 0 _ 55 _ rfl rfl rfl (by kernel_rfl) (waits haft 1 (by kernel_rfl)); (try dsimp only at t0); refine go_in (wanted_at rfl rfl rfl tg rfl) ?_; intro K hk; clear haft hK tg hLi; go_simp; exact hS.go hk rfl
  apply LinAll.cons0
  · intro g L a x hLi haft hS hK; have t56 := hK.new 2 0 _ 56 _ rfl rfl rfl (by kernel_rfl) (waits haft 2 (by kernel_rfl)); have tg := hK.new 1 1 _ 55 _ rfl rfl rfl (by kernel_rfl) (waits haft 1 (by kernel_rfl)); (try dsimp only at t56); refine go_in (wanted_at rfl rfl rfl tg rfl) ?_; intro K hk; clear haft hK tg hLi; go_simp; exact hS.go hk rfl
  apply LinAll.cons0
  · intro g L a x hLi haft hS hK; have t57 := hK.new 3 0 _ 57 _ rfl rfl rfl (by kernel_rfl) (waits haft 3 (by kernel_rfl)); have tg := hK.new 1 2 _ 55 _ rfl rfl rfl (by kernel_rfl) (waits haft 1 (by kernel_rfl)); (try dsimp only at t57); refine go_in (wanted_at rfl rfl rfl tg rfl) ?_; intro K hk; clear haft hK tg hLi; go_simp; exact hS.go hk rfl
  apply LinAll.cons0
  · intro g L a x hLi haft hS hK; have t8 := (hK.old 8 (by kernel_rfl)).trans o8; have tg := hK.new 4 0 _ 58 _ rfl rfl rfl (by kernel_rfl) (waits haft 4 (by kernel_rfl)); (try dsimp only at t8); exact go_out (wanted_at rfl rfl rfl tg rfl) ⟨rfl, hS.same rfl⟩
  apply LinAll.cons0
  · intro g L a x hLi haft hS hK; have t1 := (hK.old 1 (by kernel_rfl)).trans o1; have tg := hK.new 4 1 _ 58 _ rfl rfl rfl (by kernel_rfl) (waits haft 4 (by kernel_rfl)); (try dsimp only at t1); exact go_out (wanted_at rfl rfl rfl tg rfl) ⟨rfl, hS.same rfl⟩
  apply LinAll.cons0
  · intro g L a x hLi haft hS hK; have t60 := hK.new 6 0 _ 60 _ rfl rfl rfl (by kernel_rfl) (waits haft 6 (by kernel_rfl)); have tg := hK.new 4 2 _ 58 _ rfl rfl rfl (by kernel_rfl) (waits haft 4 (by kernel_rfl)); (try dsimp only at t60); exact go_out (wanted_at rfl rfl rfl tg rfl) ⟨rfl, hS.same rfl⟩
  apply LinAll.cons0
  · intro g L a x hLi haft hS hK; have t59 := hK.new 5 2 _ 59 _ rfl rfl rfl (by kernel_rfl) (waits haft 5 (by kernel_rfl)); have t61 := hK.new 7 0 _ 61 _ rfl rfl rfl (by kernel_rfl) (waits haft 7 (by kernel_rfl)); have tg := hK.new 4 3 _ 58 _ rfl rfl rfl (by kernel_rfl) (waits haft 4 (by kernel_rfl)); (try dsimp only at t59 t61); exact go_out (wanted_at rfl rfl rfl tg rfl) ⟨rfl, hS.same rfl⟩
  apply LinAll.cons0
  · intro g L a x hLi haft hS hK; have t58 := hK.new 4 4 _ 58 _ rfl rfl rfl (by kernel_rfl) (waits haft 4 (by kernel_rfl)); have t62 := hK.new 8 0 _ 62 _ rfl rfl rfl (by kernel_rfl) (waits haft 8 (by kernel_rfl)); have tg := hK.new 1 7 _ 55 _ rfl rfl rfl (by kernel_rfl) (waits haft 1 (by kernel_rfl)); (try dsimp only at t58 t62); refine go_in (wanted_at rfl rfl rfl tg rfl) ?_; intro K hk; clear haft hK tg hLi; go_simp; exact hS.go hk rfl
  apply LinAll.cons0
  · intro g L a x hLi haft hS hK; have t63 := hK.new 9 0 _ 63 _ rfl rfl rfl (by kernel_rfl) (waits haft 9 (by kernel_rfl)); have tg := hK.new 1 8 _ 55 _ rfl rfl rfl (by kernel_rfl) (waits haft 1 (by kernel_rfl)); (try dsimp only at t63); refine go_in (wanted_at rfl rfl rfl tg rfl) ?_; intro K hk; clear haft hK tg hLi; go_simp; exact hS.go hk rfl
  apply LinAll.cons0
  · intro g L a x hLi haft hS hK; have t0 := (hK.old 0 (by kernel_rfl)).trans o0; have tg := hK.new 10 0 _ 64 _ rfl rfl rfl (by kernel_rfl) (waits haft 10 (by kernel_rfl)); (try dsimp only at t0); refine go_in (wanted_at rfl rfl rfl tg rfl) ?_; intro K hk; clear haft hK tg hLi; go_simp; exact hS.go hk rfl
  apply LinAll.cons0
  · intro g L a x hLi haft hS hK; have t65 := hK.new 11 0 _ 65 _ rfl rfl rfl (by kernel_rfl) (waits haft 11 (by kernel_rfl)); have tg := hK.new 10 1 _ 64 _ rfl rfl rfl (by kernel_rfl) (waits haft 10 (by kernel_rfl)); (try dsimp only at t65); refine go_in (wanted_at rfl rfl rfl tg rfl) ?_; intro K hk; clear haft hK tg hLi; go_simp; exact hS.go hk rfl
  apply LinAll.cons0
  · intro g L a x hLi haft hS hK; have t66 := hK.new 12 0 _ 66 _ rfl rfl rfl (by kernel_rfl) (waits haft 12 (by kernel_rfl)); have tg := hK.new 10 2 _ 64 _ rfl rfl rfl (by kernel_rfl) (waits haft 10 (by kernel_rfl)); (try dsimp only at t66); refine go_in (wanted_at rfl rfl rfl tg rfl) ?_; intro K hk; clear haft hK tg hLi; go_simp; exact hS.go hk rfl
  apply LinAll.cons0
  · intro g L a x hLi haft hS hK; have t8 := (hK.old 8 (by kernel_rfl)).trans o8; have tg := hK.new 13 0 _ 67 _ rfl rfl rfl (by kernel_rfl) (waits haft 13 (by kernel_rfl)); (try dsimp only at t8); refine go_in (wanted_at rfl rfl rfl tg rfl) ?_; intro K hk; obtain ⟨c0, c1, c2⟩ := (hS.own _ (.head _)).2.get3; clear haft hK tg hLi; go_simp; exact hS.go hk rfl
  apply LinAll.cons0
  · intro g L a x hLi haft hS hK; have t1 := (hK.old 1 (by kernel_rfl)).trans o1; have tg := hK.new 13 1 _ 67 _ rfl rfl rfl (by kernel_rfl) (waits haft 13 (by kernel_rfl)); (try dsimp only at t1); refine go_in (wanted_at rfl rfl rfl tg rfl) ?_; intro K hk; clear haft hK tg hLi; go_simp; exact hS.go hk rfl
  apply LinAll.cons0
  · intro g L a x hLi haft hS hK; have t69 := hK.new 15 0 _ 69 _ rfl rfl rfl (by kernel_rfl) (waits haft 15 (by kernel_rfl)); have tg := hK.new 13 2 _ 67 _ rfl rfl rfl (by kernel_rfl) (waits haft 13 (by kernel_rfl)); (try dsimp only at t69); refine go_in (wanted_at rfl rfl rfl tg rfl) ?_; intro K hk; clear haft hK tg hLi; go_simp; exact hS.go hk rfl
  apply LinAll.cons0
  · intro g L a x hLi haft hS hK; have t70 := hK.new 16 0 _ 70 _ rfl rfl rfl (by kernel_rfl) (waits haft 16 (by kernel_rfl)); have tg := hK.new 13 3 _ 67 _ rfl rfl rfl (by kernel_rfl) (waits haft 13 (by kernel_rfl)); (try dsimp only at t70); refine go_in (wanted_at rfl rfl rfl tg rfl) ?_; intro K hk; have hlook := HC.out _ hS.below; clear haft hK tg hLi; go_simp; exact hS.go hk rfl
  apply LinAll.cons0
  · intro g L a x hLi haft hS hK; have t71 := hK.new 17 0 _ 71 _ rfl rfl rfl (by kernel_rfl) (waits haft 17 (by kernel_rfl)); have tg := hK.new 13 4 _ 67 _ rfl rfl rfl (by kernel_rfl) (waits haft 13 (by kernel_rfl)); (try dsimp only at t71); refine go_in (wanted_at rfl rfl rfl tg rfl) ?_; intro K hk; clear haft hK tg hLi; go_simp; refine (HBO.out _).mono ?_; rintro e y ⟨rfl, hb⟩; exact hS.on hk hb rfl
  apply LinAll.cons0
  · intro g L a x hLi haft hS hK; have t68 := hK.new 14 4 _ 68 _ rfl rfl rfl (by kernel_rfl) (waits haft 14 (by kernel_rfl)); have t72 := hK.new 18 0 _ 72 _ rfl rfl rfl (by kernel_rfl) (waits haft 18 (by kernel_rfl)); have tg := hK.new 13 5 _ 67 _ rfl rfl rfl (by kernel_rfl) (waits haft 13 (by kernel_rfl)); (try dsimp only at t68 t72); refine go_in (wanted_at rfl rfl rfl tg rfl) ?_; intro K hk; clear haft hK tg hLi; go_simp; exact hS.go hk rfl
  apply LinAll.cons0
  · intro g L a x hLi haft hS hK; have t67 := hK.new 13 6 _ 67 _ rfl rfl rfl (by kernel_rfl) (waits haft 13 (by kernel_rfl)); have t73 := hK.new 19 0 _ 73 _ rfl rfl rfl (by kernel_rfl) (waits haft 19 (by kernel_rfl)); have tg := hK.new 10 9 _ 64 _ rfl rfl rfl (by kernel_rfl) (waits haft 10 (by kernel_rfl)); (try dsimp only at t67 t73); refine go_in (wanted_at rfl rfl rfl tg rfl) ?_; intro K hk; clear haft hK tg hLi; go_simp; exact hS.go hk rfl
  apply LinAll.cons0
  · intro g L a x hLi haft hS hK; have t64 := hK.new 10 10 _ 64 _ rfl rfl rfl (by kernel_rfl) (waits haft 10 (by kernel_rfl)); have t74 := hK.new 20 0 _ 74 _ rfl rfl rfl (by kernel_rfl) (waits haft 20 (by kernel_rfl)); have tg := hK.new 1 19 _ 55 _ rfl rfl rfl (by kernel_rfl) (waits haft 1 (by kernel_rfl)); (try dsimp only at t64 t74); refine go_in (wanted_at rfl rfl rfl tg rfl) ?_; intro K hk; clear haft hK tg hLi; go_simp; exact hS.go hk rfl
  apply LinAll.cons0
  · intro g L a x hLi haft hS hK; have t55 := hK.new 1 20 _ 55 _ rfl rfl rfl (by kernel_rfl) (waits haft 1 (by kernel_rfl)); have t75 := hK.new 21 0 _ 75 _ rfl rfl rfl (by kernel_rfl) (waits haft 21 (by kernel_rfl)); (try dsimp only at t55 t75); refine go_in (wanted_all rfl) ?_; intro K hk; clear haft hK hLi; go_simp; exact hS.go hk rfl
  refine LinAll.nil fun g x hS => ?_
  subst ha0
  simp only [Act.put, List.setIfInBounds_toArray, List.set_cons_zero, List.set_cons_succ]
  clear o0 o1 o8 o10
  have KL := And.intro (hS.own _ (.head _)).2.get3 (hS.own _ (.tail _ (.head _))).2.get3
  have hBq := hS.below
  have hBs := hBq.size
  clear hS
  clear KF4 HC
  go_wp2_with fail
  refine (HB.out _).mono ?_
  rintro e w5 ⟨rfl, hb5⟩
  have hb5' := below_step (w := w) (by go_grown) hb5
  have hs5 := hb5'.size
  have KF5 : w5.cell? ⟨w.heap.size, 0, none⟩ = some (.int .i64 A) ∧ w5.cell? ⟨w.heap.size, 1, none⟩ = some (.int .u64 lo) ∧ w5.cell? ⟨w.heap.size, 2, none⟩ = some (.int .u64 hi) ∧ w5.cell? ⟨w2.heap.size, 0, none⟩ = some (.int .i64 0) ∧ w5.cell? ⟨w2.heap.size, 1, none⟩ = some (.int .u64 (LO M)) ∧ w5.cell? ⟨w2.heap.size, 2, none⟩ = some (.int .u64 (HI M)) := ⟨keep_cell hb5 (by first | (simp [go_sem]; done) | (simp [go_sem, KL]; done) | (simp [go_sem, KL, World.cell?_alloc_some]; done) | (simp [go_sem, KL, frozen?_alloc_cells]; done)), keep_cell hb5 (by first | (simp [go_sem]; done) | (simp [go_sem, KL]; done) | (simp [go_sem, KL, World.cell?_alloc_some]; done) | (simp [go_sem, KL, frozen?_alloc_cells]; done)), keep_cell hb5 (by first | (simp [go_sem]; done) | (simp [go_sem, KL]; done) | (simp [go_sem, KL, World.cell?_alloc_some]; done) | (simp [go_sem, KL, frozen?_alloc_cells]; done)), keep_cell hb5 (by first | (simp [go_sem]; done) | (simp [go_sem, KL]; done) | (simp [go_sem, KL, World.cell?_alloc_some]; done) | (simp [go_sem, KL, frozen?_alloc_cells]; done)), keep_cell hb5 (by first | (simp [go_sem]; done) | (simp [go_sem, KL]; done) | (simp [go_sem, KL, World.cell?_alloc_some]; done) | (simp [go_sem, KL, frozen?_alloc_cells]; done)), keep_cell hb5 (by first | (simp [go_sem]; done) | (simp [go_sem, KL]; done) | (simp [go_sem, KL, World.cell?_alloc_some]; done) | (simp [go_sem, KL, frozen?_alloc_cells]; done))⟩; have KF5z0 : w.heap.size < w5.heap.size := World.block_lt_of_cell? _ _ KF5.1; have KF5z1 : w2.heap.size < w5.heap.size := World.block_lt_of_cell? _ _ KF5.2.2.2.1
  clear hb5 KL
  go_wp2_with fail
  refine (HR.out _).mono ?_
  rintro e w6 ⟨rfl, hb6⟩
  have hb6' := below_step (w := w) (by go_grown) hb6
  have hs6 := hb6'.size
  have KF6 : w6.cell? ⟨w.heap.size, 0, none⟩ = some (.int .i64 A) ∧ w6.cell? ⟨w.heap.size, 1, none⟩ = some (.int .u64 lo) ∧ w6.cell? ⟨w.heap.size, 2, none⟩ = some (.int .u64 hi) ∧ w6.cell? ⟨w2.heap.size, 0, none⟩ = some (.int .i64 0) ∧ w6.cell? ⟨w2.heap.size, 1, none⟩ = some (.int .u64 (LO M)) ∧ w6.cell? ⟨w2.heap.size, 2, none⟩ = some (.int .u64 (HI M)) := ⟨keep_cell hb6 (by first | (simp [go_sem]; done) | (simp [go_sem, KF5]; done) | (simp [go_sem, KF5, World.cell?_alloc_some]; done) | (simp [go_sem, KF5, frozen?_alloc_cells]; done)), keep_cell hb6 (by first | (simp [go_sem]; done) | (simp [go_sem, KF5]; done) | (simp [go_sem, KF5, World.cell?_alloc_some]; done) | (simp [go_sem, KF5, frozen?_alloc_cells]; done)), keep_cell hb6 (by first | (simp [go_sem]; done) | (simp [go_sem, KF5]; done) | (simp [go_sem, KF5, World.cell?_alloc_some]; done) | (simp [go_sem, KF5, frozen?_alloc_cells]; done)), keep_cell hb6 (by first | (simp [go_sem]; done) | (simp [go_sem, KF5]; done) | (simp [go_sem, KF5, World.cell?_alloc_some]; done) | (simp [go_sem, KF5, frozen?_alloc_cells]; done)), keep_cell hb6 (by first | (simp [go_sem]; done) | (simp [go_sem, KF5]; done) | (simp [go_sem, KF5, World.cell?_alloc_some]; done) | (simp [go_sem, KF5, frozen?_alloc_cells]; done)), keep_cell hb6 (by first | (simp [go_sem]; done) | (simp [go_sem, KF5]; done) | (simp [go_sem, KF5, World.cell?_alloc_some]; done) | (simp [go_sem, KF5, frozen?_alloc_cells]; done))⟩; have KF6z0 : w.heap.size < w6.heap.size := World.block_lt_of_cell? _ _ KF6.1; have KF6z1 : w2.heap.size < w6.heap.size := World.block_lt_of_cell? _ _ KF6.2.2.2.1
  clear hb6 KF5
  go_wp2_with fail
  go_ret
  exact ⟨rfl, by go_grown⟩

set_option maxRecDepth 100000 in
set_option maxHeartbeats 1200000 in
theorem walk_yes2_t {w : World} {g o : Nat} {bx : Bool} {t N m : Nat} {l : List Bool} {c : Nat} {M : Nat} (HV1 : Hid (∀ (b : Option Addr) (d : Nat) (wx : World), Br wx b l → Calls Try.prog 6 #[.int .i64 0, .slice b 1 d] wx fun e w' => e = .returned (.tuple #[.agg #[.int .i64 0, .int .u64 (LO M), .int .u64 (HI M)], .int .i64 0]) ∧ Below wx.heap.size wx w')) (HBO : Hid (∀ wx, Calls Try.prog 10 #[.bool bx] wx fun e w' => e = .returned (.agg #[.int .i64 0, .int .u64 (LO M), .int .u64 (HI M)]) ∧ Below wx.heap.size wx w')) (HC : Hid (∀ wx, Below w.heap.size w wx → wx.cell? ⟨g, o, none⟩ = some (.bool bx))) (hs : srt 0 = true) (hmt : (m : Int) = max (t : Int) 1) (HB : Hid (∀ wx, Calls Try.prog 11 #[.agg #[.int .i64 t, .int .u64 (LO (N)), .int .u64 (HI (N))]] wx fun e w' => ∃ g, e = .returned (.slice (some ⟨g, 0, none⟩) m m) ∧ Bs w' wx.heap.size (.slice (some ⟨g, 0, none⟩) m m) (bl m N) ∧ Below wx.heap.size wx w')) (HR : Hid (∀ wx, Calls Try.prog 12 #[.agg #[.int .i64 t, .int .u64 (LO (N)), .int .u64 (HI (N))]] wx fun e w' => e = .returned (.bool true) ∧ Below wx.heap.size wx w')) (HV : Hid (∀ g wx, (∀ j, j < m → wx.cell? ⟨g, 0 + j, none⟩ = some (.bool (N.testBit j))) → g < wx.heap.size → Calls Try.prog 6 #[.int .i64 (t : Int), .slice (some ⟨g, 0, none⟩) m m] wx fun e w' => e = .returned (.tuple #[.agg #[.int .i64 t, .int .u64 (LO (N)), .int .u64 (HI (N))], .int .i64 0]) ∧ Below wx.heap.size wx w')) (hl : Br w (some ⟨g, o, none⟩) l) (hn : 1 = l.length)  :
    Calls Try.prog 3 #[.int .i64 0, .slice (some ⟨g, o, none⟩) 1 c, .agg #[.int .i64 (t : Int), .int .u64 (LO N), .int .u64 (HI N)]] w fun e w' => e = .returned (.bool true) ∧ Below w.heap.size w w' := by
  have hqe := eq_own
  have hqn := neq_own
  have HL : Hid (Br w (some ⟨g, o, none⟩) l) := hl
  have HN : Hid (1 = l.length) := hn
  have HIS : Hid (∀ wx, Calls Try.prog 7 #[.int .i64 0] wx fun e w' => e = .returned (.bool true) ∧ Below wx.heap.size wx w') := fun wx => (refIs_any 0 wx).mono fun e w' h => ⟨by rw [← hs]; exact h.1, h.2 ▸ Below.refl _ _⟩
  have hm10 : (1 : Nat) ≤ 1000 := by omega
  clear hl hn hs
  go_enter Try.func3, Try.ntmps3
  go_wp2_with fail
  refine (known_any _).mono ?_
  rintro e w1 ⟨rfl, hb1⟩
  have hb1' := below_step (w := w) (by go_grown) hb1
  have hs1 := hb1'.size
  have KF1 : w1.cell? ⟨w.heap.size, 0, none⟩ = some (.int .i64 (t : Int)) ∧ w1.cell? ⟨w.heap.size, 1, none⟩ = some (.int .u64 (LO N)) ∧ w1.cell? ⟨w.heap.size, 2, none⟩ = some (.int .u64 (HI N)) ∧ (∀ o, w1.frozen? ⟨w.heap.size, o, none⟩ = false) := ⟨keep_cell hb1 (by first | (simp [go_sem]; done)), keep_cell hb1 (by first | (simp [go_sem]; done)), keep_cell hb1 (by first | (simp [go_sem]; done)), keep_frozen2 hb1 (by first | (simp [go_sem]; done)) (by first | (simp [go_sem]; done))⟩; have KF1z0 : w.heap.size < w1.heap.size := World.block_lt_of_cell? _ _ KF1.1
  clear hb1
  go_wp2_with (at_builtin; refine wpList_app_br rfl _ _ rfl rfl (some ⟨g, o, none⟩) l c 1 rfl HN.out (HL.out.below hb1') (by have := HN.out; omega) ?_; intro b d wa hbr hba)
  have KFa : wa.cell? ⟨w.heap.size, 0, none⟩ = some (.int .i64 (t : Int)) ∧ wa.cell? ⟨w.heap.size, 1, none⟩ = some (.int .u64 (LO N)) ∧ wa.cell? ⟨w.heap.size, 2, none⟩ = some (.int .u64 (HI N)) ∧ (∀ o, wa.frozen? ⟨w.heap.size, o, none⟩ = false) := ⟨(hba.cell (p := ⟨w.heap.size, 0, none⟩) KF1z0).trans KF1.1, (hba.cell (p := ⟨w.heap.size, 1, none⟩) KF1z0).trans KF1.2.1, (hba.cell (p := ⟨w.heap.size, 2, none⟩) KF1z0).trans KF1.2.2.1, fun o => (hba.frozen (p := ⟨w.heap.size, o, none⟩) KF1z0).trans (KF1.2.2.2 o)⟩
  have hba' : Below w.heap.size w wa := hb1'.trans (hba.mono hs1)
  have hsa := hba'.size
  have KFaz0 : w.heap.size < wa.heap.size := Nat.lt_of_lt_of_le KF1z0 hba.size
  have HBR : Hid (Br wa b l) := hbr
  clear KF1 hba hbr
  go_wp2_with fail
  refine (HV1.out b d _ HBR.out).mono ?_
  rintro e w2 ⟨rfl, hb2⟩
  have hb2' := below_step (w := w) (by go_grown) hb2
  have hs2 := hb2'.size
  have hx2 : Below wa.heap.size wa w2 := hb2
  have KF2 : w2.cell? ⟨w.heap.size, 0, none⟩ = some (.int .i64 (t : Int)) ∧ w2.cell? ⟨w.heap.size, 1, none⟩ = some (.int .u64 (LO N)) ∧ w2.cell? ⟨w.heap.size, 2, none⟩ = some (.int .u64 (HI N)) ∧ (∀ o, w2.frozen? ⟨w.heap.size, o, none⟩ = false) := ⟨keep_cell hb2 (by first | (simp [go_sem]; done) | (simp [go_sem, KFa]; done) | (simp [go_sem, KFa, World.cell?_alloc_some]; done) | (simp [go_sem, KFa, frozen?_alloc_cells]; done)), keep_cell hb2 (by first | (simp [go_sem]; done) | (simp [go_sem, KFa]; done) | (simp [go_sem, KFa, World.cell?_alloc_some]; done) | (simp [go_sem, KFa, frozen?_alloc_cells]; done)), keep_cell hb2 (by first | (simp [go_sem]; done) | (simp [go_sem, KFa]; done) | (simp [go_sem, KFa, World.cell?_alloc_some]; done) | (simp [go_sem, KFa, frozen?_alloc_cells]; done)), keep_frozen2 hb2 (by first | (simp [go_sem]; done) | (simp [go_sem, KFa]; done) | (simp [go_sem, KFa, World.cell?_alloc_some]; done) | (simp [go_sem, KFa, frozen?_alloc_cells]; done)) (by first | (simp [go_sem]; done) | (simp [go_sem, KFa]; done) | (simp [go_sem, KFa, World.cell?_alloc_some]; done) | (simp [go_sem, KFa, frozen?_alloc_cells]; done))⟩; have KF2z0 : w.heap.size < w2.heap.size := World.block_lt_of_cell? _ _ KF2.1
  clear hb2 KFa
  go_wp2_with fail
  refine (HIS.out _).mono ?_
  rintro e w3 ⟨rfl, hb3⟩
  have hb3' := below_step (w := w) (by go_grown) hb3
  have hs3 := hb3'.size
  have hx3 : Below wa.heap.size wa w3 := (hx2.alloc hx2.size _).trans (hb3.mono (by have := hx2.size; simp; omega))
  have KF3 : w3.cell? ⟨w.heap.size, 0, none⟩ = some (.int .i64 (t : Int)) ∧ w3.cell? ⟨w.heap.size, 1, none⟩ = some (.int .u64 (LO N)) ∧ w3.cell? ⟨w.heap.size, 2, none⟩ = some (.int .u64 (HI N)) ∧ (∀ o, w3.frozen? ⟨w.heap.size, o, none⟩ = false) ∧ w3.cell? ⟨w2.heap.size, 0, none⟩ = some (.int .i64 0) ∧ w3.cell? ⟨w2.heap.size, 1, none⟩ = some (.int .u64 (LO M)) ∧ w3.cell? ⟨w2.heap.size, 2, none⟩ = some (.int .u64 (HI M)) ∧ (∀ o, w3.frozen? ⟨w2.heap.size, o, none⟩ = false) := ⟨keep_cell hb3 (by first | (simp [go_sem]; done) | (simp [go_sem, KF2]; done) | (simp [go_sem, KF2, World.cell?_alloc_some]; done) | (simp [go_sem, KF2, frozen?_alloc_cells]; done)), keep_cell hb3 (by first | (simp [go_sem]; done) | (simp [go_sem, KF2]; done) | (simp [go_sem, KF2, World.cell?_alloc_some]; done) | (simp [go_sem, KF2, frozen?_alloc_cells]; done)), keep_cell hb3 (by first | (simp [go_sem]; done) | (simp [go_sem, KF2]; done) | (simp [go_sem, KF2, World.cell?_alloc_some]; done) | (simp [go_sem, KF2, frozen?_alloc_cells]; done)), keep_frozen2 hb3 (by first | (simp [go_sem]; done) | (simp [go_sem, KF2]; done) | (simp [go_sem, KF2, World.cell?_alloc_some]; done) | (simp [go_sem, KF2, frozen?_alloc_cells]; done)) (by first | (simp [go_sem]; done) | (simp [go_sem, KF2]; done) | (simp [go_sem, KF2, World.cell?_alloc_some]; done) | (simp [go_sem, KF2, frozen?_alloc_cells]; done)), keep_cell hb3 (by first | (simp [go_sem]; done) | (simp [go_sem, KF2]; done) | (simp [go_sem, KF2, World.cell?_alloc_some]; done) | (simp [go_sem, KF2, frozen?_alloc_cells]; done)), keep_cell hb3 (by first | (simp [go_sem]; done) | (simp [go_sem, KF2]; done) | (simp [go_sem, KF2, World.cell?_alloc_some]; done) | (simp [go_sem, KF2, frozen?_alloc_cells]; done)), keep_cell hb3 (by first | (simp [go_sem]; done) | (simp [go_sem, KF2]; done) | (simp [go_sem, KF2, World.cell?_alloc_some]; done) | (simp [go_sem, KF2, frozen?_alloc_cells]; done)), keep_frozen2 hb3 (by first | (simp [go_sem]; done) | (simp [go_sem, KF2]; done) | (simp [go_sem, KF2, World.cell?_alloc_some]; done) | (simp [go_sem, KF2, frozen?_alloc_cells]; done)) (by first | (simp [go_sem]; done) | (simp [go_sem, KF2]; done) | (simp [go_sem, KF2, World.cell?_alloc_some]; done) | (simp [go_sem, KF2, frozen?_alloc_cells]; done))⟩; have KF3z0 : w.heap.size < w3.heap.size := World.block_lt_of_cell? _ _ KF3.1; have KF3z1 : w2.heap.size < w3.heap.size := World.block_lt_of_cell? _ _ KF3.2.2.2.2.1
  clear hb3 KF2
  go_wp2_with fail
  refine (bools_same (HBR.out.below hx3) (HL.out.below hb3') HN.out hm10).mono ?_
  rintro e w4 ⟨rfl, hb4⟩
  have hb4' := below_step (w := w) (by go_grown) hb4
  have hs4 := hb4'.size
  have KF4 : w4.cell? ⟨w.heap.size, 0, none⟩ = some (.int .i64 (t : Int)) ∧ w4.cell? ⟨w.heap.size, 1, none⟩ = some (.int .u64 (LO N)) ∧ w4.cell? ⟨w.heap.size, 2, none⟩ = some (.int .u64 (HI N)) ∧ (∀ o, w4.frozen? ⟨w.heap.size, o, none⟩ = false) ∧ w4.cell? ⟨w2.heap.size, 0, none⟩ = some (.int .i64 0) ∧ w4.cell? ⟨w2.heap.size, 1, none⟩ = some (.int .u64 (LO M)) ∧ w4.cell? ⟨w2.heap.size, 2, none⟩ = some (.int .u64 (HI M)) ∧ (∀ o, w4.frozen? ⟨w2.heap.size, o, none⟩ = false) := ⟨keep_cell hb4 (by first | (simp [go_sem]; done) | (simp [go_sem, KF3]; done) | (simp [go_sem, KF3, World.cell?_alloc_some]; done) | (simp [go_sem, KF3, frozen?_alloc_cells]; done)), keep_cell hb4 (by first | (simp [go_sem]; done) | (simp [go_sem, KF3]; done) | (simp [go_sem, KF3, World.cell?_alloc_some]; done) | (simp [go_sem, KF3, frozen?_alloc_cells]; done)), keep_cell hb4 (by first | (simp [go_sem]; done) | (simp [go_sem, KF3]; done) | (simp [go_sem, KF3, World.cell?_alloc_some]; done) | (simp [go_sem, KF3, frozen?_alloc_cells]; done)), keep_frozen2 hb4 (by first | (simp [go_sem]; done) | (simp [go_sem, KF3]; done) | (simp [go_sem, KF3, World.cell?_alloc_some]; done) | (simp [go_sem, KF3, frozen?_alloc_cells]; done)) (by first | (simp [go_sem]; done) | (simp [go_sem, KF3]; done) | (simp [go_sem, KF3, World.cell?_alloc_some]; done) | (simp [go_sem, KF3, frozen?_alloc_cells]; done)), keep_cell hb4 (by first | (simp [go_sem]; done) | (simp [go_sem, KF3]; done) | (simp [go_sem, KF3, World.cell?_alloc_some]; done) | (simp [go_sem, KF3, frozen?_alloc_cells]; done)), keep_cell hb4 (by first | (simp [go_sem]; done) | (simp [go_sem, KF3]; done) | (simp [go_sem, KF3, World.cell?_alloc_some]; done) | (simp [go_sem, KF3, frozen?_alloc_cells]; done)), keep_cell hb4 (by first | (simp [go_sem]; done) | (simp [go_sem, KF3]; done) | (simp [go_sem, KF3, World.cell?_alloc_some]; done) | (simp [go_sem, KF3, frozen?_alloc_cells]; done)), keep_frozen2 hb4 (by first | (simp [go_sem]; done) | (simp [go_sem, KF3]; done) | (simp [go_sem, KF3, World.cell?_alloc_some]; done) | (simp [go_sem, KF3, frozen?_alloc_cells]; done)) (by first | (simp [go_sem]; done) | (simp [go_sem, KF3]; done) | (simp [go_sem, KF3, World.cell?_alloc_some]; done) | (simp [go_sem, KF3, frozen?_alloc_cells]; done))⟩; have KF4z0 : w.heap.size < w4.heap.size := World.block_lt_of_cell? _ _ KF4.1; have KF4z1 : w2.heap.size < w4.heap.size := World.block_lt_of_cell? _ _ KF4.2.2.2.2.1
  clear hb4 KF3
  clear hx2 hx3
  go_wp2_with fail
  refine wp_named fun a0 ha0 => ?_
  have o0 := old_at ha0 (t := 0) rfl
  have o1 := old_at ha0 (t := 1) rfl
  have o8 := old_at ha0 (t := 8) rfl
  have o10 := old_at ha0 (t := 10) rfl
  refine wp_region_lin (S := SS w w4.heap.size [(w2.heap.size, [.int .i64 0, .int .u64 (LO M), .int .u64 (HI M)]), (w.heap.size, [.int .i64 (t : Int), .int .u64 (LO N), .int .u64 (HI N)])] []) [] (fun _ => 0) (by kernel_rfl) (by kernel_rfl) (by rw [← ha0]; kernel_rfl) (SS.start (by first | assumption | go_grown) ?_) ?_
  · intro p hp; simp only [List.mem_cons, List.not_mem_nil, or_false] at hp; rcases hp with rfl | rfl; all_goals exact ⟨At.three (by simp [KF4]) (by simp [KF4]) (by simp [KF4]), by simp⟩
  apply LinAll.cons0
  · intro g L a x hLi haft hS hK; have t10 := (hK.old 10 (by kernel_rfl)).trans o10; (try dsimp only at t10); refine go_in (wanted_all rfl) ?_; intro K hk; clear haft hK hLi; go_simp; exact hS.go hk rfl
  apply LinAll.cons0
  · intro g L a x hLi haft hS hK; have t54 := hK.new 0 0 _ 54 _ rfl rfl rfl (by kernel_rfl) (waits haft 0 (by kernel_rfl)); (try dsimp only at t54); refine go_in (wanted_all rfl) ?_; intro K hk; clear haft hK hLi; go_simp; exact hS.go hk rfl
  apply LinAll.cons0
  · intro g L a x hLi haft hS hK; have t0 := (hK.old 0 (by kernel_rfl)).trans o0; have tg := hK.new 1 0 _ 55 _ rfl rfl rfl (by kernel_rfl) (waits haft 1 (by kernel_rfl)); (try dsimp only at t0); refine go_in (wanted_at rfl rfl rfl tg rfl) ?_; intro K hk; clear haft hK tg hLi; go_simp; exact hS.go hk rfl
  apply LinAll.cons0
  · intro g L a x hLi haft hS hK; have t56 := hK.new 2 0 _ 56 _ rfl rfl rfl (by kernel_rfl) (waits haft 2 (by kernel_rfl)); have tg := hK.new 1 1 _ 55 _ rfl rfl rfl (by kernel_rfl) (waits haft 1 (by kernel_rfl)); (try dsimp only at t56); refine go_in (wanted_at rfl rfl rfl tg rfl) ?_; intro K hk; clear haft hK tg hLi; go_simp; exact hS.go hk rfl
  apply LinAll.cons0
  · intro g L a x hLi haft hS hK; have t57 := hK.new 3 0 _ 57 _ rfl rfl rfl (by kernel_rfl) (waits haft 3 (by kernel_rfl)); have tg := hK.new 1 2 _ 55 _ rfl rfl rfl (by kernel_rfl) (waits haft 1 (by kernel_rfl)); (try dsimp only at t57); refine go_in (wanted_at rfl rfl rfl tg rfl) ?_; intro K hk; clear haft hK tg hLi; go_simp; exact hS.go hk rfl
  apply LinAll.cons0
  · intro g L a x hLi haft hS hK; have t8 := (hK.old 8 (by kernel_rfl)).trans o8; have tg := hK.new 4 0 _ 58 _ rfl rfl rfl (by kernel_rfl) (waits haft 4 (by kernel_rfl)); (try dsimp only at t8); exact go_out (wanted_at rfl rfl rfl tg rfl) ⟨rfl, hS.same rfl⟩
  apply LinAll.cons0
  · intro g L a x hLi haft hS hK; have t1 := (hK.old 1 (by kernel_rfl)).trans o1; have tg := hK.new 4 1 _ 58 _ rfl rfl rfl (by kernel_rfl) (waits haft 4 (by kernel_rfl)); (try dsimp only at t1); exact go_out (wanted_at rfl rfl rfl tg rfl) ⟨rfl, hS.same rfl⟩
  apply LinAll.cons0
  · intro g L a x hLi haft hS hK; have t60 := hK.new 6 0 _ 60 _ rfl rfl rfl (by kernel_rfl) (waits haft 6 (by kernel_rfl)); have tg := hK.new 4 2 _ 58 _ rfl rfl rfl (by kernel_rfl) (waits haft 4 (by kernel_rfl)); (try dsimp only at t60); exact go_out (wanted_at rfl rfl rfl tg rfl) ⟨rfl, hS.same rfl⟩
  apply LinAll.cons0
  · intro g L a x hLi haft hS hK; have t59 := hK.new 5 2 _ 59 _ rfl rfl rfl (by kernel_rfl) (waits haft 5 (by kernel_rfl)); have t61 := hK.new 7 0 _ 61 _ rfl rfl rfl (by kernel_rfl) (waits haft 7 (by kernel_rfl)); have tg := hK.new 4 3 _ 58 _ rfl rfl rfl (by kernel_rfl) (waits haft 4 (by kernel_rfl)); (try dsimp only at t59 t61); exact go_out (wanted_at rfl rfl rfl tg rfl) ⟨rfl, hS.same rfl⟩
  apply LinAll.cons0
  · intro g L a x hLi haft hS hK; have t58 := hK.new 4 4 _ 58 _ rfl rfl rfl (by kernel_rfl) (waits haft 4 (by kernel_rfl)); have t62 := hK.new 8 0 _ 62 _ rfl rfl rfl (by kernel_rfl) (waits haft 8 (by kernel_rfl)); have tg := hK.new 1 7 _ 55 _ rfl rfl rfl (by kernel_rfl) (waits haft 1 (by kernel_rfl)); (try dsimp only at t58 t62); refine go_in (wanted_at rfl rfl rfl tg rfl) ?_; intro K hk; clear haft hK tg hLi; go_simp; exact hS.go hk rfl
  apply LinAll.cons0
  · intro g L a x hLi haft hS hK; have t63 := hK.new 9 0 _ 63 _ rfl rfl rfl (by kernel_rfl) (waits haft 9 (by kernel_rfl)); have tg := hK.new 1 8 _ 55 _ rfl rfl rfl (by kernel_rfl) (waits haft 1 (by kernel_rfl)); (try dsimp only at t63); refine go_in (wanted_at rfl rfl rfl tg rfl) ?_; intro K hk; clear haft hK tg hLi; go_simp; exact hS.go hk rfl
  apply LinAll.cons0
  · intro g L a x hLi haft hS hK; have t0 := (hK.old 0 (by kernel_rfl)).trans o0; have tg := hK.new 10 0 _ 64 _ rfl rfl rfl (by kernel_rfl) (waits haft 10 (by kernel_rfl)); (try dsimp only at t0); refine go_in (wanted_at rfl rfl rfl tg rfl) ?_; intro K hk; clear haft hK tg hLi; go_simp; exact hS.go hk rfl
  apply LinAll.cons0
  · intro g L a x hLi haft hS hK; have t65 := hK.new 11 0 _ 65 _ rfl rfl rfl (by kernel_rfl) (waits haft 11 (by kernel_rfl)); have tg := hK.new 10 1 _ 64 _ rfl rfl rfl (by kernel_rfl) (waits haft 10 (by kernel_rfl)); (try dsimp only at t65); refine go_in (wanted_at rfl rfl rfl tg rfl) ?_; intro K hk; clear haft hK tg hLi; go_simp; exact hS.go hk rfl
  apply LinAll.cons0
  · intro g L a x hLi haft hS hK; have t66 := hK.new 12 0 _ 66 _ rfl rfl rfl (by kernel_rfl) (waits haft 12 (by kernel_rfl)); have tg := hK.new 10 2 _ 64 _ rfl rfl rfl (by kernel_rfl) (waits haft 10 (by kernel_rfl)); (try dsimp only at t66); refine go_in (wanted_at rfl rfl rfl tg rfl) ?_; intro K hk; clear haft hK tg hLi; go_simp; exact hS.go hk rfl
  apply LinAll.cons0
  · intro g L a x hLi haft hS hK; have t8 := (hK.old 8 (by kernel_rfl)).trans o8; have tg := hK.new 13 0 _ 67 _ rfl rfl rfl (by kernel_rfl) (waits haft 13 (by kernel_rfl)); (try dsimp only at t8); refine go_in (wanted_at rfl rfl rfl tg rfl) ?_; intro K hk; obtain ⟨c0, c1, c2⟩ := (hS.own _ (.head _)).2.get3; clear haft hK tg hLi; go_simp; exact hS.go hk rfl
  apply LinAll.cons0
  · intro g L a x hLi haft hS hK; have t1 := (hK.old 1 (by kernel_rfl)).trans o1; have tg := hK.new 13 1 _ 67 _ rfl rfl rfl (by kernel_rfl) (waits haft 13 (by kernel_rfl)); (try dsimp only at t1); refine go_in (wanted_at rfl rfl rfl tg rfl) ?_; intro K hk; clear haft hK tg hLi; go_simp; exact hS.go hk rfl
  apply LinAll.cons0
  · intro g L a x hLi haft hS hK; have t69 := hK.new 15 0 _ 69 _ rfl rfl rfl (by kernel_rfl) (waits haft 15 (by kernel_rfl)); have tg := hK.new 13 2 _ 67 _ rfl rfl rfl (by kernel_rfl) (waits haft 13 (by kernel_rfl)); (try dsimp only at t69); refine go_in (wanted_at rfl rfl rfl tg rfl) ?_; intro K hk; clear haft hK tg hLi; go_simp; exact hS.go hk rfl
  apply LinAll.cons0
  · intro g L a x hLi haft hS hK; have t70 := hK.new 16 0 _ 70 _ rfl rfl rfl (by kernel_rfl) (waits haft 16 (by kernel_rfl)); have tg := hK.new 13 3 _ 67 _ rfl rfl rfl (by kernel_rfl) (waits haft 13 (by kernel_rfl)); (try dsimp only at t70); refine go_in (wanted_at rfl rfl rfl tg rfl) ?_; intro K hk; have hlook := HC.out _ hS.below; clear haft hK tg hLi; go_simp; exact hS.go hk rfl
  apply LinAll.cons0
  · intro g L a x hLi haft hS hK; have t71 := hK.new 17 0 _ 71 _ rfl rfl rfl (by kernel_rfl) (waits haft 17 (by kernel_rfl)); have tg := hK.new 13 4 _ 67 _ rfl rfl rfl (by kernel_rfl) (waits haft 13 (by kernel_rfl)); (try dsimp only at t71); refine go_in (wanted_at rfl rfl rfl tg rfl) ?_; intro K hk; clear haft hK tg hLi; go_simp; refine (HBO.out _).mono ?_; rintro e y ⟨rfl, hb⟩; exact hS.on hk hb rfl
  apply LinAll.cons0
  · intro g L a x hLi haft hS hK; have t68 := hK.new 14 4 _ 68 _ rfl rfl rfl (by kernel_rfl) (waits haft 14 (by kernel_rfl)); have t72 := hK.new 18 0 _ 72 _ rfl rfl rfl (by kernel_rfl) (waits haft 18 (by kernel_rfl)); have tg := hK.new 13 5 _ 67 _ rfl rfl rfl (by kernel_rfl) (waits haft 13 (by kernel_rfl)); (try dsimp only at t68 t72); refine go_in (wanted_at rfl rfl rfl tg rfl) ?_; intro K hk; clear haft hK tg hLi; go_simp; exact hS.go hk rfl
  apply LinAll.cons0
  · intro g L a x hLi haft hS hK; have t67 := hK.new 13 6 _ 67 _ rfl rfl rfl (by kernel_rfl) (waits haft 13 (by kernel_rfl)); have t73 := hK.new 19 0 _ 73 _ rfl rfl rfl (by kernel_rfl) (waits haft 19 (by kernel_rfl)); have tg := hK.new 10 9 _ 64 _ rfl rfl rfl (by kernel_rfl) (waits haft 10 (by kernel_rfl)); (try dsimp only at t67 t73); refine go_in (wanted_at rfl rfl rfl tg rfl) ?_; intro K hk; clear haft hK tg hLi; go_simp; exact hS.go hk rfl
  apply LinAll.cons0
  · intro g L a x hLi haft hS hK; have t64 := hK.new 10 10 _ 64 _ rfl rfl rfl (by kernel_rfl) (waits haft 10 (by kernel_rfl)); have t74 := hK.new 20 0 _ 74 _ rfl rfl rfl (by kernel_rfl) (waits haft 20 (by kernel_rfl)); have tg := hK.new 1 19 _ 55 _ rfl rfl rfl (by kernel_rfl) (waits haft 1 (by kernel_rfl)); (try dsimp only at t64 t74); refine go_in (wanted_at rfl rfl rfl tg rfl) ?_; intro K hk; clear haft hK tg hLi; go_simp; exact hS.go hk rfl
  apply LinAll.cons0
  · intro g L a x hLi haft hS hK; have t55 := hK.new 1 20 _ 55 _ rfl rfl rfl (by kernel_rfl) (waits haft 1 (by kernel_rfl)); have t75 := hK.new 21 0 _ 75 _ rfl rfl rfl (by kernel_rfl) (waits haft 21 (by kernel_rfl)); (try dsimp only at t55 t75); refine go_in (wanted_all rfl) ?_; intro K hk; clear haft hK hLi; go_simp; exact hS.go hk rfl
  refine LinAll.nil fun g x hS => ?_
  subst ha0
  simp only [Act.put, List.setIfInBounds_toArray, List.set_cons_zero, List.set_cons_succ]
  clear o0 o1 o8 o10
  have KL := And.intro (hS.own _ (.head _)).2.get3 (hS.own _ (.tail _ (.head _))).2.get3
  have hBq := hS.below
  have hBs := hBq.size
  clear hS
  clear KF4 HC
  go_wp2_with fail
  refine (HB.out _).mono ?_
  rintro e w5 ⟨g, rfl, hB, hb5⟩
  have hb5' := below_step (w := w) (by go_grown) hb5
  have hs5 := hb5'.size
  have HG : Hid (∀ j, j < m → w5.cell? ⟨g, 0 + j, none⟩ = some (.bool (N.testBit j))) := (fun j hj => by rw [Nat.zero_add]; exact Bs.cell hB (bl_len m N).symm (bl_get hj)); have hgl := (Bs.lt hB).2; have hx5 := Below.refl w5.heap.size w5; clear hB
  have KF5 : w5.cell? ⟨w.heap.size, 0, none⟩ = some (.int .i64 (t : Int)) ∧ w5.cell? ⟨w.heap.size, 1, none⟩ = some (.int .u64 (LO N)) ∧ w5.cell? ⟨w.heap.size, 2, none⟩ = some (.int .u64 (HI N)) ∧ w5.cell? ⟨w2.heap.size, 0, none⟩ = some (.int .i64 0) ∧ w5.cell? ⟨w2.heap.size, 1, none⟩ = some (.int .u64 (LO M)) ∧ w5.cell? ⟨w2.heap.size, 2, none⟩ = some (.int .u64 (HI M)) := ⟨keep_cell hb5 (by first | (simp [go_sem]; done) | (simp [go_sem, KL]; done) | (simp [go_sem, KL, World.cell?_alloc_some]; done) | (simp [go_sem, KL, frozen?_alloc_cells]; done)), keep_cell hb5 (by first | (simp [go_sem]; done) | (simp [go_sem, KL]; done) | (simp [go_sem, KL, World.cell?_alloc_some]; done) | (simp [go_sem, KL, frozen?_alloc_cells]; done)), keep_cell hb5 (by first | (simp [go_sem]; done) | (simp [go_sem, KL]; done) | (simp [go_sem, KL, World.cell?_alloc_some]; done) | (simp [go_sem, KL, frozen?_alloc_cells]; done)), keep_cell hb5 (by first | (simp [go_sem]; done) | (simp [go_sem, KL]; done) | (simp [go_sem, KL, World.cell?_alloc_some]; done) | (simp [go_sem, KL, frozen?_alloc_cells]; done)), keep_cell hb5 (by first | (simp [go_sem]; done) | (simp [go_sem, KL]; done) | (simp [go_sem, KL, World.cell?_alloc_some]; done) | (simp [go_sem, KL, frozen?_alloc_cells]; done)), keep_cell hb5 (by first | (simp [go_sem]; done) | (simp [go_sem, KL]; done) | (simp [go_sem, KL, World.cell?_alloc_some]; done) | (simp [go_sem, KL, frozen?_alloc_cells]; done))⟩; have KF5z0 : w.heap.size < w5.heap.size := World.block_lt_of_cell? _ _ KF5.1; have KF5z1 : w2.heap.size < w5.heap.size := World.block_lt_of_cell? _ _ KF5.2.2.2.1
  clear hb5 KL
  go_wp2_with fail
  refine (HR.out _).mono ?_
  rintro e w6 ⟨rfl, hb6⟩
  have hb6' := below_step (w := w) (by go_grown) hb6
  have hs6 := hb6'.size
  have hx6 : Below w5.heap.size w5 w6 := hb6; have hgl6 : g < w6.heap.size := Nat.lt_of_lt_of_le hgl hb6.size
  have KF6 : w6.cell? ⟨w.heap.size, 0, none⟩ = some (.int .i64 (t : Int)) ∧ w6.cell? ⟨w.heap.size, 1, none⟩ = some (.int .u64 (LO N)) ∧ w6.cell? ⟨w.heap.size, 2, none⟩ = some (.int .u64 (HI N)) ∧ w6.cell? ⟨w2.heap.size, 0, none⟩ = some (.int .i64 0) ∧ w6.cell? ⟨w2.heap.size, 1, none⟩ = some (.int .u64 (LO M)) ∧ w6.cell? ⟨w2.heap.size, 2, none⟩ = some (.int .u64 (HI M)) := ⟨keep_cell hb6 (by first | (simp [go_sem]; done) | (simp [go_sem, KF5]; done) | (simp [go_sem, KF5, World.cell?_alloc_some]; done) | (simp [go_sem, KF5, frozen?_alloc_cells]; done)), keep_cell hb6 (by first | (simp [go_sem]; done) | (simp [go_sem, KF5]; done) | (simp [go_sem, KF5, World.cell?_alloc_some]; done) | (simp [go_sem, KF5, frozen?_alloc_cells]; done)), keep_cell hb6 (by first | (simp [go_sem]; done) | (simp [go_sem, KF5]; done) | (simp [go_sem, KF5, World.cell?_alloc_some]; done) | (simp [go_sem, KF5, frozen?_alloc_cells]; done)), keep_cell hb6 (by first | (simp [go_sem]; done) | (simp [go_sem, KF5]; done) | (simp [go_sem, KF5, World.cell?_alloc_some]; done) | (simp [go_sem, KF5, frozen?_alloc_cells]; done)), keep_cell hb6 (by first | (simp [go_sem]; done) | (simp [go_sem, KF5]; done) | (simp [go_sem, KF5, World.cell?_alloc_some]; done) | (simp [go_sem, KF5, frozen?_alloc_cells]; done)), keep_cell hb6 (by first | (simp [go_sem]; done) | (simp [go_sem, KF5]; done) | (simp [go_sem, KF5, World.cell?_alloc_some]; done) | (simp [go_sem, KF5, frozen?_alloc_cells]; done))⟩; have KF6z0 : w.heap.size < w6.heap.size := World.block_lt_of_cell? _ _ KF6.1; have KF6z1 : w2.heap.size < w6.heap.size := World.block_lt_of_cell? _ _ KF6.2.2.2.1
  clear hb6 KF5
  go_wp2_with fail
  refine (HV.out g w6 (fun j hj => (hx6.cell (p := ⟨g, 0 + j, none⟩) hgl).trans (HG.out j hj)) hgl6).mono ?_
  rintro e w7 ⟨rfl, hb7⟩
  have hb7' := below_step (w := w) (by go_grown) hb7
  have hs7 := hb7'.size
  have KF7 : w7.cell? ⟨w.heap.size, 0, none⟩ = some (.int .i64 (t : Int)) ∧ w7.cell? ⟨w.heap.size, 1, none⟩ = some (.int .u64 (LO N)) ∧ w7.cell? ⟨w.heap.size, 2, none⟩ = some (.int .u64 (HI N)) ∧ w7.cell? ⟨w2.heap.size, 0, none⟩ = some (.int .i64 0) ∧ w7.cell? ⟨w2.heap.size, 1, none⟩ = some (.int .u64 (LO M)) ∧ w7.cell? ⟨w2.heap.size, 2, none⟩ = some (.int .u64 (HI M)) := ⟨keep_cell hb7 (by first | (simp [go_sem]; done) | (simp [go_sem, KF6]; done) | (simp [go_sem, KF6, World.cell?_alloc_some]; done) | (simp [go_sem, KF6, frozen?_alloc_cells]; done)), keep_cell hb7 (by first | (simp [go_sem]; done) | (simp [go_sem, KF6]; done) | (simp [go_sem, KF6, World.cell?_alloc_some]; done) | (simp [go_sem, KF6, frozen?_alloc_cells]; done)), keep_cell hb7 (by first | (simp [go_sem]; done) | (simp [go_sem, KF6]; done) | (simp [go_sem, KF6, World.cell?_alloc_some]; done) | (simp [go_sem, KF6, frozen?_alloc_cells]; done)), keep_cell hb7 (by first | (simp [go_sem]; done) | (simp [go_sem, KF6]; done) | (simp [go_sem, KF6, World.cell?_alloc_some]; done) | (simp [go_sem, KF6, frozen?_alloc_cells]; done)), keep_cell hb7 (by first | (simp [go_sem]; done) | (simp [go_sem, KF6]; done) | (simp [go_sem, KF6, World.cell?_alloc_some]; done) | (simp [go_sem, KF6, frozen?_alloc_cells]; done)), keep_cell hb7 (by first | (simp [go_sem]; done) | (simp [go_sem, KF6]; done) | (simp [go_sem, KF6, World.cell?_alloc_some]; done) | (simp [go_sem, KF6, frozen?_alloc_cells]; done))⟩; have KF7z0 : w.heap.size < w7.heap.size := World.block_lt_of_cell? _ _ KF7.1; have KF7z1 : w2.heap.size < w7.heap.size := World.block_lt_of_cell? _ _ KF7.2.2.2.1
  clear hb7 KF6
  clear hx6 hgl6 hgl HG
  go_wp2_with fail
  all_goals first | (exfalso; omega) | (go_ret; exact ⟨rfl, by go_grown⟩)

end Go.Proofs.Ytedldoobmmhloaa
