/- The walk of EvalTurned, with the operators 17, 18, 20, 37. (Made by a script.) -/
import Derived.Test.YtnflphhckgeneaaEA21
import Derived.Test.YtnflphhckgeneaaEA19
namespace Go.Proofs.Ytnflphhckgeneaa
open Go.RowKit
set_option linter.unusedSimpArgs false
set_option linter.unusedVariables false

set_option maxRecDepth 20000 in
set_option maxHeartbeats 12800000 in
theorem turn_17 {a b c r r1 r2 : Bt} {er e1 e2 m : Int} (HT : Hid (Ap 17 [a, b] r er)) (HU : Hid (Ap 17 [b, a] r er)) (HI : Hid (Ap 9 [c, a, b] r1 e1)) (HJ : Hid (Ap 9 [⟨0, 1 - m, 0⟩, b, a] r2 e2)) (hm : bits .and .u64 c.lo 1 = m) (hm2 : m = 0 ∨ m = 1)
    (HE : Hid ((e1 = 0 ∧ e2 = 0 ∧ r1 = r2 ∧ ((c.lo = 1 ∧ r1 = a) ∨ (c.lo = 0 ∧ r1 = b))) ∨ e1 = 30)) (w : World) :
    Calls Try.prog 3 #[.int .i64 17, .agg #[.int .i64 a.w, .int .u64 a.lo, .int .u64 a.hi], .agg #[.int .i64 b.w, .int .u64 b.lo, .int .u64 b.hi], .agg #[.int .i64 c.w, .int .u64 c.lo, .int .u64 c.hi]] w fun e w' => e = .returned (.bool true) ∧ Below w.heap.size w w' := by
  have hqe := eqb
  have hqn := neb
  go_enter Try.func3, Try.ntmps3
  go_wp2_with fail
  refine (known4 _).mono ?_
  rintro e w1 ⟨rfl, hb⟩
  have s1 : w.heap.size + 3 ≤ w1.heap.size := by have := hb.size; rw [size_alloc', size_alloc', size_alloc'] at this; exact this
  have B1 : Below w.heap.size w w1 := ((((Below.refl w.heap.size w).alloc (Nat.le_refl _) (.cells #[.int .i64 a.w, .int .u64 a.lo, .int .u64 a.hi] 24)).alloc (by rw [size_alloc']; omega) (.cells #[.int .i64 b.w, .int .u64 b.lo, .int .u64 b.hi] 24)).alloc (by rw [size_alloc', size_alloc']; omega) (.cells #[.int .i64 c.w, .int .u64 c.lo, .int .u64 c.hi] 24)).trans (hb.mono (by rw [size_alloc', size_alloc', size_alloc']; omega))
  have fa1 : Hid (w1.heap[w.heap.size]? = some (.cells #[.int .i64 a.w, .int .u64 a.lo, .int .u64 a.hi] 24)) := (hb.block _ (by rw [size_alloc', size_alloc', size_alloc']; omega)).trans ((heap_alloc_old _ _ (by rw [size_alloc', size_alloc']; omega)).trans ((heap_alloc_old _ _ (by rw [size_alloc']; omega)).trans (heap_alloc_new w (.cells #[.int .i64 a.w, .int .u64 a.lo, .int .u64 a.hi] 24))))
  have fb1 : Hid (w1.heap[w.heap.size + 1]? = some (.cells #[.int .i64 b.w, .int .u64 b.lo, .int .u64 b.hi] 24)) := (hb.block _ (by rw [size_alloc', size_alloc', size_alloc']; omega)).trans ((heap_alloc_old _ _ (by rw [size_alloc', size_alloc']; omega)).trans (by have := heap_alloc_new (w.alloc (.cells #[.int .i64 a.w, .int .u64 a.lo, .int .u64 a.hi] 24)) (.cells #[.int .i64 b.w, .int .u64 b.lo, .int .u64 b.hi] 24); rw [size_alloc'] at this; exact this))
  have fc1 : Hid (w1.heap[w.heap.size + 2]? = some (.cells #[.int .i64 c.w, .int .u64 c.lo, .int .u64 c.hi] 24)) := (hb.block _ (by rw [size_alloc', size_alloc', size_alloc']; omega)).trans (by have := heap_alloc_new ((w.alloc (.cells #[.int .i64 a.w, .int .u64 a.lo, .int .u64 a.hi] 24)).alloc (.cells #[.int .i64 b.w, .int .u64 b.lo, .int .u64 b.hi] 24)) (.cells #[.int .i64 c.w, .int .u64 c.lo, .int .u64 c.hi] 24); rw [size_alloc', size_alloc'] at this; exact this)
  clear hb
  have a10 : w1.cell? ⟨w.heap.size, 0, none⟩ = some (.int .i64 a.w) := cell_of fa1.out 0 rfl
  have a11 : w1.cell? ⟨w.heap.size, 1, none⟩ = some (.int .u64 a.lo) := cell_of fa1.out 1 rfl
  have a12 : w1.cell? ⟨w.heap.size, 2, none⟩ = some (.int .u64 a.hi) := cell_of fa1.out 2 rfl
  have la1 : w.heap.size < w1.heap.size := by omega
  have b10 : w1.cell? ⟨w.heap.size + 1, 0, none⟩ = some (.int .i64 b.w) := cell_of fb1.out 0 rfl
  have b11 : w1.cell? ⟨w.heap.size + 1, 1, none⟩ = some (.int .u64 b.lo) := cell_of fb1.out 1 rfl
  have b12 : w1.cell? ⟨w.heap.size + 1, 2, none⟩ = some (.int .u64 b.hi) := cell_of fb1.out 2 rfl
  have lb1 : w.heap.size + 1 < w1.heap.size := by omega
  go_wp2_with fail
  clear a10 a11 a12 b10 b11 b12 la1 lb1
  refine (HT.out _ _ 2 (by
    have hc := heap_alloc_new (w1) (.cells #[.int .i64 a.w, .int .u64 a.lo, .int .u64 a.hi, .int .i64 b.w, .int .u64 b.lo, .int .u64 b.hi] 24)
    exact lb_of2 hc) (by simp)).mono ?_
  rintro e w2 ⟨rfl, hb⟩
  have s2 : w1.heap.size + 1 ≤ w2.heap.size := by have := hb.size; rw [size_alloc'] at this; exact this
  have B2 : Below w.heap.size w w2 := (B1.alloc (by have := B1.size; omega) (.cells #[.int .i64 a.w, .int .u64 a.lo, .int .u64 a.hi, .int .i64 b.w, .int .u64 b.lo, .int .u64 b.hi] 24)).trans (hb.mono (by rw [size_alloc']; have := B1.size; omega))
  have fa2 : Hid (w2.heap[w.heap.size]? = some (.cells #[.int .i64 a.w, .int .u64 a.lo, .int .u64 a.hi] 24)) := (hb.block _ (by rw [size_alloc']; omega)).trans ((heap_alloc_old _ (.cells #[.int .i64 a.w, .int .u64 a.lo, .int .u64 a.hi, .int .i64 b.w, .int .u64 b.lo, .int .u64 b.hi] 24) (by omega)).trans (fa1.out))
  have fb2 : Hid (w2.heap[w.heap.size + 1]? = some (.cells #[.int .i64 b.w, .int .u64 b.lo, .int .u64 b.hi] 24)) := (hb.block _ (by rw [size_alloc']; omega)).trans ((heap_alloc_old _ (.cells #[.int .i64 a.w, .int .u64 a.lo, .int .u64 a.hi, .int .i64 b.w, .int .u64 b.lo, .int .u64 b.hi] 24) (by omega)).trans (fb1.out))
  have fc2 : Hid (w2.heap[w.heap.size + 2]? = some (.cells #[.int .i64 c.w, .int .u64 c.lo, .int .u64 c.hi] 24)) := (hb.block _ (by rw [size_alloc']; omega)).trans ((heap_alloc_old _ (.cells #[.int .i64 a.w, .int .u64 a.lo, .int .u64 a.hi, .int .i64 b.w, .int .u64 b.lo, .int .u64 b.hi] 24) (by omega)).trans (fc1.out))
  clear hb
  have a20 : w2.cell? ⟨w.heap.size, 0, none⟩ = some (.int .i64 a.w) := cell_of fa2.out 0 rfl
  have a21 : w2.cell? ⟨w.heap.size, 1, none⟩ = some (.int .u64 a.lo) := cell_of fa2.out 1 rfl
  have a22 : w2.cell? ⟨w.heap.size, 2, none⟩ = some (.int .u64 a.hi) := cell_of fa2.out 2 rfl
  have la2 : w.heap.size < w2.heap.size := by omega
  have b20 : w2.cell? ⟨w.heap.size + 1, 0, none⟩ = some (.int .i64 b.w) := cell_of fb2.out 0 rfl
  have b21 : w2.cell? ⟨w.heap.size + 1, 1, none⟩ = some (.int .u64 b.lo) := cell_of fb2.out 1 rfl
  have b22 : w2.cell? ⟨w.heap.size + 1, 2, none⟩ = some (.int .u64 b.hi) := cell_of fb2.out 2 rfl
  have lb2 : w.heap.size + 1 < w2.heap.size := by omega
  go_wp2_with fail
  clear a20 a21 a22 b20 b21 b22 la2 lb2
  refine (HU.out _ _ 2 (by
    have hc := heap_alloc_new (w2.alloc (.cells #[.int .i64 r.w, .int .u64 r.lo, .int .u64 r.hi] 24)) (.cells #[.int .i64 b.w, .int .u64 b.lo, .int .u64 b.hi, .int .i64 a.w, .int .u64 a.lo, .int .u64 a.hi] 24)
    rw [size_alloc'] at hc
    exact lb_of2 hc) (by simp)).mono ?_
  rintro e w3 ⟨rfl, hb⟩
  have s3 : w2.heap.size + 2 ≤ w3.heap.size := by have := hb.size; rw [size_alloc', size_alloc'] at this; exact this
  have B3 : Below w.heap.size w w3 := ((B2.alloc (by have := B2.size; omega) (.cells #[.int .i64 r.w, .int .u64 r.lo, .int .u64 r.hi] 24)).alloc (by rw [size_alloc']; have := B2.size; omega) (.cells #[.int .i64 b.w, .int .u64 b.lo, .int .u64 b.hi, .int .i64 a.w, .int .u64 a.lo, .int .u64 a.hi] 24)).trans (hb.mono (by rw [size_alloc', size_alloc']; have := B2.size; omega))
  have fa3 : Hid (w3.heap[w.heap.size]? = some (.cells #[.int .i64 a.w, .int .u64 a.lo, .int .u64 a.hi] 24)) := (hb.block _ (by rw [size_alloc', size_alloc']; omega)).trans ((heap_alloc_old _ (.cells #[.int .i64 b.w, .int .u64 b.lo, .int .u64 b.hi, .int .i64 a.w, .int .u64 a.lo, .int .u64 a.hi] 24) (by rw [size_alloc']; omega)).trans ((heap_alloc_old _ (.cells #[.int .i64 r.w, .int .u64 r.lo, .int .u64 r.hi] 24) (by omega)).trans (fa2.out)))
  have fb3 : Hid (w3.heap[w.heap.size + 1]? = some (.cells #[.int .i64 b.w, .int .u64 b.lo, .int .u64 b.hi] 24)) := (hb.block _ (by rw [size_alloc', size_alloc']; omega)).trans ((heap_alloc_old _ (.cells #[.int .i64 b.w, .int .u64 b.lo, .int .u64 b.hi, .int .i64 a.w, .int .u64 a.lo, .int .u64 a.hi] 24) (by rw [size_alloc']; omega)).trans ((heap_alloc_old _ (.cells #[.int .i64 r.w, .int .u64 r.lo, .int .u64 r.hi] 24) (by omega)).trans (fb2.out)))
  have fc3 : Hid (w3.heap[w.heap.size + 2]? = some (.cells #[.int .i64 c.w, .int .u64 c.lo, .int .u64 c.hi] 24)) := (hb.block _ (by rw [size_alloc', size_alloc']; omega)).trans ((heap_alloc_old _ (.cells #[.int .i64 b.w, .int .u64 b.lo, .int .u64 b.hi, .int .i64 a.w, .int .u64 a.lo, .int .u64 a.hi] 24) (by rw [size_alloc']; omega)).trans ((heap_alloc_old _ (.cells #[.int .i64 r.w, .int .u64 r.lo, .int .u64 r.hi] 24) (by omega)).trans (fc2.out)))
  have fx3 : Hid (w3.heap[w2.heap.size]? = some (.cells #[.int .i64 r.w, .int .u64 r.lo, .int .u64 r.hi] 24)) := (hb.block _ (by rw [size_alloc', size_alloc']; omega)).trans ((heap_alloc_old _ (.cells #[.int .i64 b.w, .int .u64 b.lo, .int .u64 b.hi, .int .i64 a.w, .int .u64 a.lo, .int .u64 a.hi] 24) (by rw [size_alloc']; omega)).trans (heap_alloc_new w2 (.cells #[.int .i64 r.w, .int .u64 r.lo, .int .u64 r.hi] 24)))
  clear hb
  have hee : (er != er) = false := by simp
  have a30 : w3.cell? ⟨w.heap.size, 0, none⟩ = some (.int .i64 a.w) := cell_of fa3.out 0 rfl
  have a31 : w3.cell? ⟨w.heap.size, 1, none⟩ = some (.int .u64 a.lo) := cell_of fa3.out 1 rfl
  have a32 : w3.cell? ⟨w.heap.size, 2, none⟩ = some (.int .u64 a.hi) := cell_of fa3.out 2 rfl
  have la3 : w.heap.size < w3.heap.size := by omega
  have b30 : w3.cell? ⟨w.heap.size + 1, 0, none⟩ = some (.int .i64 b.w) := cell_of fb3.out 0 rfl
  have b31 : w3.cell? ⟨w.heap.size + 1, 1, none⟩ = some (.int .u64 b.lo) := cell_of fb3.out 1 rfl
  have b32 : w3.cell? ⟨w.heap.size + 1, 2, none⟩ = some (.int .u64 b.hi) := cell_of fb3.out 2 rfl
  have lb3 : w.heap.size + 1 < w3.heap.size := by omega
  have c30 : w3.cell? ⟨w.heap.size + 2, 0, none⟩ = some (.int .i64 c.w) := cell_of fc3.out 0 rfl
  have c31 : w3.cell? ⟨w.heap.size + 2, 1, none⟩ = some (.int .u64 c.lo) := cell_of fc3.out 1 rfl
  have c32 : w3.cell? ⟨w.heap.size + 2, 2, none⟩ = some (.int .u64 c.hi) := cell_of fc3.out 2 rfl
  have lc3 : w.heap.size + 2 < w3.heap.size := by omega
  have x30 : w3.cell? ⟨w2.heap.size, 0, none⟩ = some (.int .i64 r.w) := cell_of fx3.out 0 rfl
  have x31 : w3.cell? ⟨w2.heap.size, 1, none⟩ = some (.int .u64 r.lo) := cell_of fx3.out 1 rfl
  have x32 : w3.cell? ⟨w2.heap.size, 2, none⟩ = some (.int .u64 r.hi) := cell_of fx3.out 2 rfl
  have lx3 : w2.heap.size < w3.heap.size := by omega
  go_wp2_with fail
  clear a30 a31 a32 b30 b31 b32 c30 c31 c32 x30 x31 x32 la3 lb3 lc3 lx3
  clear hee
  refine (HI.out _ _ 3 (by
    have hc := heap_alloc_new (w3.alloc (.cells #[.int .i64 r.w, .int .u64 r.lo, .int .u64 r.hi] 24)) (.cells #[.int .i64 c.w, .int .u64 c.lo, .int .u64 c.hi, .int .i64 a.w, .int .u64 a.lo, .int .u64 a.hi, .int .i64 b.w, .int .u64 b.lo, .int .u64 b.hi] 24)
    rw [size_alloc'] at hc
    exact lb_of3 hc) (by simp)).mono ?_
  rintro e w4 ⟨rfl, hb⟩
  have s4 : w3.heap.size + 2 ≤ w4.heap.size := by have := hb.size; rw [size_alloc', size_alloc'] at this; exact this
  have B4 : Below w.heap.size w w4 := ((B3.alloc (by have := B3.size; omega) (.cells #[.int .i64 r.w, .int .u64 r.lo, .int .u64 r.hi] 24)).alloc (by rw [size_alloc']; have := B3.size; omega) (.cells #[.int .i64 c.w, .int .u64 c.lo, .int .u64 c.hi, .int .i64 a.w, .int .u64 a.lo, .int .u64 a.hi, .int .i64 b.w, .int .u64 b.lo, .int .u64 b.hi] 24)).trans (hb.mono (by rw [size_alloc', size_alloc']; have := B3.size; omega))
  have fa4 : Hid (w4.heap[w.heap.size]? = some (.cells #[.int .i64 a.w, .int .u64 a.lo, .int .u64 a.hi] 24)) := (hb.block _ (by rw [size_alloc', size_alloc']; omega)).trans ((heap_alloc_old _ (.cells #[.int .i64 c.w, .int .u64 c.lo, .int .u64 c.hi, .int .i64 a.w, .int .u64 a.lo, .int .u64 a.hi, .int .i64 b.w, .int .u64 b.lo, .int .u64 b.hi] 24) (by rw [size_alloc']; omega)).trans ((heap_alloc_old _ (.cells #[.int .i64 r.w, .int .u64 r.lo, .int .u64 r.hi] 24) (by omega)).trans (fa3.out)))
  have fb4 : Hid (w4.heap[w.heap.size + 1]? = some (.cells #[.int .i64 b.w, .int .u64 b.lo, .int .u64 b.hi] 24)) := (hb.block _ (by rw [size_alloc', size_alloc']; omega)).trans ((heap_alloc_old _ (.cells #[.int .i64 c.w, .int .u64 c.lo, .int .u64 c.hi, .int .i64 a.w, .int .u64 a.lo, .int .u64 a.hi, .int .i64 b.w, .int .u64 b.lo, .int .u64 b.hi] 24) (by rw [size_alloc']; omega)).trans ((heap_alloc_old _ (.cells #[.int .i64 r.w, .int .u64 r.lo, .int .u64 r.hi] 24) (by omega)).trans (fb3.out)))
  have fc4 : Hid (w4.heap[w.heap.size + 2]? = some (.cells #[.int .i64 c.w, .int .u64 c.lo, .int .u64 c.hi] 24)) := (hb.block _ (by rw [size_alloc', size_alloc']; omega)).trans ((heap_alloc_old _ (.cells #[.int .i64 c.w, .int .u64 c.lo, .int .u64 c.hi, .int .i64 a.w, .int .u64 a.lo, .int .u64 a.hi, .int .i64 b.w, .int .u64 b.lo, .int .u64 b.hi] 24) (by rw [size_alloc']; omega)).trans ((heap_alloc_old _ (.cells #[.int .i64 r.w, .int .u64 r.lo, .int .u64 r.hi] 24) (by omega)).trans (fc3.out)))
  clear hb
  have a40 : w4.cell? ⟨w.heap.size, 0, none⟩ = some (.int .i64 a.w) := cell_of fa4.out 0 rfl
  have a41 : w4.cell? ⟨w.heap.size, 1, none⟩ = some (.int .u64 a.lo) := cell_of fa4.out 1 rfl
  have a42 : w4.cell? ⟨w.heap.size, 2, none⟩ = some (.int .u64 a.hi) := cell_of fa4.out 2 rfl
  have la4 : w.heap.size < w4.heap.size := by omega
  have b40 : w4.cell? ⟨w.heap.size + 1, 0, none⟩ = some (.int .i64 b.w) := cell_of fb4.out 0 rfl
  have b41 : w4.cell? ⟨w.heap.size + 1, 1, none⟩ = some (.int .u64 b.lo) := cell_of fb4.out 1 rfl
  have b42 : w4.cell? ⟨w.heap.size + 1, 2, none⟩ = some (.int .u64 b.hi) := cell_of fb4.out 2 rfl
  have lb4 : w.heap.size + 1 < w4.heap.size := by omega
  have c40 : w4.cell? ⟨w.heap.size + 2, 0, none⟩ = some (.int .i64 c.w) := cell_of fc4.out 0 rfl
  have c41 : w4.cell? ⟨w.heap.size + 2, 1, none⟩ = some (.int .u64 c.lo) := cell_of fc4.out 1 rfl
  have c42 : w4.cell? ⟨w.heap.size + 2, 2, none⟩ = some (.int .u64 c.hi) := cell_of fc4.out 2 rfl
  have lc4 : w.heap.size + 2 < w4.heap.size := by omega
  rcases hm2 with rfl | rfl
  · go_wp2_with fail
    clear a40 a41 a42 b40 b41 b42 c40 c41 c42 la4 lb4 lc4
    refine (HJ.out _ _ 3 (by
      have hc := heap_alloc_new (w4.alloc (.cells #[.int .i64 r1.w, .int .u64 r1.lo, .int .u64 r1.hi] 24)) (.cells #[.int .i64 0, .int .u64 1, .int .u64 0, .int .i64 b.w, .int .u64 b.lo, .int .u64 b.hi, .int .i64 a.w, .int .u64 a.lo, .int .u64 a.hi] 24)
      rw [size_alloc'] at hc
      exact lb_of3 hc) (by simp)).mono ?_
    rintro e w5 ⟨rfl, hb⟩
    have s5 : w4.heap.size + 2 ≤ w5.heap.size := by have := hb.size; rw [size_alloc', size_alloc'] at this; exact this
    have B5 : Below w.heap.size w w5 := ((B4.alloc (by have := B4.size; omega) (.cells #[.int .i64 r1.w, .int .u64 r1.lo, .int .u64 r1.hi] 24)).alloc (by rw [size_alloc']; have := B4.size; omega) (.cells #[.int .i64 0, .int .u64 1, .int .u64 0, .int .i64 b.w, .int .u64 b.lo, .int .u64 b.hi, .int .i64 a.w, .int .u64 a.lo, .int .u64 a.hi] 24)).trans (hb.mono (by rw [size_alloc', size_alloc']; have := B4.size; omega))
    have fa5 : Hid (w5.heap[w.heap.size]? = some (.cells #[.int .i64 a.w, .int .u64 a.lo, .int .u64 a.hi] 24)) := (hb.block _ (by rw [size_alloc', size_alloc']; omega)).trans ((heap_alloc_old _ (.cells #[.int .i64 0, .int .u64 1, .int .u64 0, .int .i64 b.w, .int .u64 b.lo, .int .u64 b.hi, .int .i64 a.w, .int .u64 a.lo, .int .u64 a.hi] 24) (by rw [size_alloc']; omega)).trans ((heap_alloc_old _ (.cells #[.int .i64 r1.w, .int .u64 r1.lo, .int .u64 r1.hi] 24) (by omega)).trans (fa4.out)))
    have fb5 : Hid (w5.heap[w.heap.size + 1]? = some (.cells #[.int .i64 b.w, .int .u64 b.lo, .int .u64 b.hi] 24)) := (hb.block _ (by rw [size_alloc', size_alloc']; omega)).trans ((heap_alloc_old _ (.cells #[.int .i64 0, .int .u64 1, .int .u64 0, .int .i64 b.w, .int .u64 b.lo, .int .u64 b.hi, .int .i64 a.w, .int .u64 a.lo, .int .u64 a.hi] 24) (by rw [size_alloc']; omega)).trans ((heap_alloc_old _ (.cells #[.int .i64 r1.w, .int .u64 r1.lo, .int .u64 r1.hi] 24) (by omega)).trans (fb4.out)))
    have fc5 : Hid (w5.heap[w.heap.size + 2]? = some (.cells #[.int .i64 c.w, .int .u64 c.lo, .int .u64 c.hi] 24)) := (hb.block _ (by rw [size_alloc', size_alloc']; omega)).trans ((heap_alloc_old _ (.cells #[.int .i64 0, .int .u64 1, .int .u64 0, .int .i64 b.w, .int .u64 b.lo, .int .u64 b.hi, .int .i64 a.w, .int .u64 a.lo, .int .u64 a.hi] 24) (by rw [size_alloc']; omega)).trans ((heap_alloc_old _ (.cells #[.int .i64 r1.w, .int .u64 r1.lo, .int .u64 r1.hi] 24) (by omega)).trans (fc4.out)))
    have fd5 : Hid (w5.heap[w4.heap.size]? = some (.cells #[.int .i64 r1.w, .int .u64 r1.lo, .int .u64 r1.hi] 24)) := (hb.block _ (by rw [size_alloc', size_alloc']; omega)).trans ((heap_alloc_old _ (.cells #[.int .i64 0, .int .u64 1, .int .u64 0, .int .i64 b.w, .int .u64 b.lo, .int .u64 b.hi, .int .i64 a.w, .int .u64 a.lo, .int .u64 a.hi] 24) (by rw [size_alloc']; omega)).trans (heap_alloc_new w4 (.cells #[.int .i64 r1.w, .int .u64 r1.lo, .int .u64 r1.hi] 24)))
    clear hb
    rcases HE.out with ⟨rfl, rfl, h3, h4⟩ | rfl
    · subst h3
      rcases h4 with ⟨h5, rfl⟩ | ⟨h5, rfl⟩
      · have hc1 : (c.lo == 1) = true := by rw [h5]; rfl
        have hc0 : (c.lo == 0) = false := by rw [h5]; rfl
        have a50 : w5.cell? ⟨w.heap.size, 0, none⟩ = some (.int .i64 r1.w) := cell_of fa5.out 0 rfl
        have a51 : w5.cell? ⟨w.heap.size, 1, none⟩ = some (.int .u64 r1.lo) := cell_of fa5.out 1 rfl
        have a52 : w5.cell? ⟨w.heap.size, 2, none⟩ = some (.int .u64 r1.hi) := cell_of fa5.out 2 rfl
        have la5 : w.heap.size < w5.heap.size := by omega
        have b50 : w5.cell? ⟨w.heap.size + 1, 0, none⟩ = some (.int .i64 b.w) := cell_of fb5.out 0 rfl
        have b51 : w5.cell? ⟨w.heap.size + 1, 1, none⟩ = some (.int .u64 b.lo) := cell_of fb5.out 1 rfl
        have b52 : w5.cell? ⟨w.heap.size + 1, 2, none⟩ = some (.int .u64 b.hi) := cell_of fb5.out 2 rfl
        have lb5 : w.heap.size + 1 < w5.heap.size := by omega
        have c50 : w5.cell? ⟨w.heap.size + 2, 0, none⟩ = some (.int .i64 c.w) := cell_of fc5.out 0 rfl
        have c51 : w5.cell? ⟨w.heap.size + 2, 1, none⟩ = some (.int .u64 c.lo) := cell_of fc5.out 1 rfl
        have c52 : w5.cell? ⟨w.heap.size + 2, 2, none⟩ = some (.int .u64 c.hi) := cell_of fc5.out 2 rfl
        have lc5 : w.heap.size + 2 < w5.heap.size := by omega
        have d50 : w5.cell? ⟨w4.heap.size, 0, none⟩ = some (.int .i64 r1.w) := cell_of fd5.out 0 rfl
        have d51 : w5.cell? ⟨w4.heap.size, 1, none⟩ = some (.int .u64 r1.lo) := cell_of fd5.out 1 rfl
        have d52 : w5.cell? ⟨w4.heap.size, 2, none⟩ = some (.int .u64 r1.hi) := cell_of fd5.out 2 rfl
        have ld5 : w4.heap.size < w5.heap.size := by omega
        go_wp2_with fail
        go_ret
        exact ⟨rfl, by go_grown⟩
      · have hc1 : (c.lo == 1) = false := by rw [h5]; rfl
        have hc0 : (c.lo == 0) = true := by rw [h5]; rfl
        have a50 : w5.cell? ⟨w.heap.size, 0, none⟩ = some (.int .i64 a.w) := cell_of fa5.out 0 rfl
        have a51 : w5.cell? ⟨w.heap.size, 1, none⟩ = some (.int .u64 a.lo) := cell_of fa5.out 1 rfl
        have a52 : w5.cell? ⟨w.heap.size, 2, none⟩ = some (.int .u64 a.hi) := cell_of fa5.out 2 rfl
        have la5 : w.heap.size < w5.heap.size := by omega
        have b50 : w5.cell? ⟨w.heap.size + 1, 0, none⟩ = some (.int .i64 r1.w) := cell_of fb5.out 0 rfl
        have b51 : w5.cell? ⟨w.heap.size + 1, 1, none⟩ = some (.int .u64 r1.lo) := cell_of fb5.out 1 rfl
        have b52 : w5.cell? ⟨w.heap.size + 1, 2, none⟩ = some (.int .u64 r1.hi) := cell_of fb5.out 2 rfl
        have lb5 : w.heap.size + 1 < w5.heap.size := by omega
        have c50 : w5.cell? ⟨w.heap.size + 2, 0, none⟩ = some (.int .i64 c.w) := cell_of fc5.out 0 rfl
        have c51 : w5.cell? ⟨w.heap.size + 2, 1, none⟩ = some (.int .u64 c.lo) := cell_of fc5.out 1 rfl
        have c52 : w5.cell? ⟨w.heap.size + 2, 2, none⟩ = some (.int .u64 c.hi) := cell_of fc5.out 2 rfl
        have lc5 : w.heap.size + 2 < w5.heap.size := by omega
        have d50 : w5.cell? ⟨w4.heap.size, 0, none⟩ = some (.int .i64 r1.w) := cell_of fd5.out 0 rfl
        have d51 : w5.cell? ⟨w4.heap.size, 1, none⟩ = some (.int .u64 r1.lo) := cell_of fd5.out 1 rfl
        have d52 : w5.cell? ⟨w4.heap.size, 2, none⟩ = some (.int .u64 r1.hi) := cell_of fd5.out 2 rfl
        have ld5 : w4.heap.size < w5.heap.size := by omega
        go_wp2_with fail
        go_ret
        exact ⟨rfl, by go_grown⟩
    · go_wp2_with fail
      go_ret
      exact ⟨rfl, by go_grown⟩
  · go_wp2_with fail
    clear a40 a41 a42 b40 b41 b42 c40 c41 c42 la4 lb4 lc4
    refine (HJ.out _ _ 3 (by
      have hc := heap_alloc_new (w4.alloc (.cells #[.int .i64 r1.w, .int .u64 r1.lo, .int .u64 r1.hi] 24)) (.cells #[.int .i64 0, .int .u64 0, .int .u64 0, .int .i64 b.w, .int .u64 b.lo, .int .u64 b.hi, .int .i64 a.w, .int .u64 a.lo, .int .u64 a.hi] 24)
      rw [size_alloc'] at hc
      exact lb_of3 hc) (by simp)).mono ?_
    rintro e w5 ⟨rfl, hb⟩
    have s5 : w4.heap.size + 2 ≤ w5.heap.size := by have := hb.size; rw [size_alloc', size_alloc'] at this; exact this
    have B5 : Below w.heap.size w w5 := ((B4.alloc (by have := B4.size; omega) (.cells #[.int .i64 r1.w, .int .u64 r1.lo, .int .u64 r1.hi] 24)).alloc (by rw [size_alloc']; have := B4.size; omega) (.cells #[.int .i64 0, .int .u64 0, .int .u64 0, .int .i64 b.w, .int .u64 b.lo, .int .u64 b.hi, .int .i64 a.w, .int .u64 a.lo, .int .u64 a.hi] 24)).trans (hb.mono (by rw [size_alloc', size_alloc']; have := B4.size; omega))
    have fa5 : Hid (w5.heap[w.heap.size]? = some (.cells #[.int .i64 a.w, .int .u64 a.lo, .int .u64 a.hi] 24)) := (hb.block _ (by rw [size_alloc', size_alloc']; omega)).trans ((heap_alloc_old _ (.cells #[.int .i64 0, .int .u64 0, .int .u64 0, .int .i64 b.w, .int .u64 b.lo, .int .u64 b.hi, .int .i64 a.w, .int .u64 a.lo, .int .u64 a.hi] 24) (by rw [size_alloc']; omega)).trans ((heap_alloc_old _ (.cells #[.int .i64 r1.w, .int .u64 r1.lo, .int .u64 r1.hi] 24) (by omega)).trans (fa4.out)))
    have fb5 : Hid (w5.heap[w.heap.size + 1]? = some (.cells #[.int .i64 b.w, .int .u64 b.lo, .int .u64 b.hi] 24)) := (hb.block _ (by rw [size_alloc', size_alloc']; omega)).trans ((heap_alloc_old _ (.cells #[.int .i64 0, .int .u64 0, .int .u64 0, .int .i64 b.w, .int .u64 b.lo, .int .u64 b.hi, .int .i64 a.w, .int .u64 a.lo, .int .u64 a.hi] 24) (by rw [size_alloc']; omega)).trans ((heap_alloc_old _ (.cells #[.int .i64 r1.w, .int .u64 r1.lo, .int .u64 r1.hi] 24) (by omega)).trans (fb4.out)))
    have fc5 : Hid (w5.heap[w.heap.size + 2]? = some (.cells #[.int .i64 c.w, .int .u64 c.lo, .int .u64 c.hi] 24)) := (hb.block _ (by rw [size_alloc', size_alloc']; omega)).trans ((heap_alloc_old _ (.cells #[.int .i64 0, .int .u64 0, .int .u64 0, .int .i64 b.w, .int .u64 b.lo, .int .u64 b.hi, .int .i64 a.w, .int .u64 a.lo, .int .u64 a.hi] 24) (by rw [size_alloc']; omega)).trans ((heap_alloc_old _ (.cells #[.int .i64 r1.w, .int .u64 r1.lo, .int .u64 r1.hi] 24) (by omega)).trans (fc4.out)))
    have fd5 : Hid (w5.heap[w4.heap.size]? = some (.cells #[.int .i64 r1.w, .int .u64 r1.lo, .int .u64 r1.hi] 24)) := (hb.block _ (by rw [size_alloc', size_alloc']; omega)).trans ((heap_alloc_old _ (.cells #[.int .i64 0, .int .u64 0, .int .u64 0, .int .i64 b.w, .int .u64 b.lo, .int .u64 b.hi, .int .i64 a.w, .int .u64 a.lo, .int .u64 a.hi] 24) (by rw [size_alloc']; omega)).trans (heap_alloc_new w4 (.cells #[.int .i64 r1.w, .int .u64 r1.lo, .int .u64 r1.hi] 24)))
    clear hb
    rcases HE.out with ⟨rfl, rfl, h3, h4⟩ | rfl
    · subst h3
      rcases h4 with ⟨h5, rfl⟩ | ⟨h5, rfl⟩
      · have hc1 : (c.lo == 1) = true := by rw [h5]; rfl
        have hc0 : (c.lo == 0) = false := by rw [h5]; rfl
        have a50 : w5.cell? ⟨w.heap.size, 0, none⟩ = some (.int .i64 r1.w) := cell_of fa5.out 0 rfl
        have a51 : w5.cell? ⟨w.heap.size, 1, none⟩ = some (.int .u64 r1.lo) := cell_of fa5.out 1 rfl
        have a52 : w5.cell? ⟨w.heap.size, 2, none⟩ = some (.int .u64 r1.hi) := cell_of fa5.out 2 rfl
        have la5 : w.heap.size < w5.heap.size := by omega
        have b50 : w5.cell? ⟨w.heap.size + 1, 0, none⟩ = some (.int .i64 b.w) := cell_of fb5.out 0 rfl
        have b51 : w5.cell? ⟨w.heap.size + 1, 1, none⟩ = some (.int .u64 b.lo) := cell_of fb5.out 1 rfl
        have b52 : w5.cell? ⟨w.heap.size + 1, 2, none⟩ = some (.int .u64 b.hi) := cell_of fb5.out 2 rfl
        have lb5 : w.heap.size + 1 < w5.heap.size := by omega
        have c50 : w5.cell? ⟨w.heap.size + 2, 0, none⟩ = some (.int .i64 c.w) := cell_of fc5.out 0 rfl
        have c51 : w5.cell? ⟨w.heap.size + 2, 1, none⟩ = some (.int .u64 c.lo) := cell_of fc5.out 1 rfl
        have c52 : w5.cell? ⟨w.heap.size + 2, 2, none⟩ = some (.int .u64 c.hi) := cell_of fc5.out 2 rfl
        have lc5 : w.heap.size + 2 < w5.heap.size := by omega
        have d50 : w5.cell? ⟨w4.heap.size, 0, none⟩ = some (.int .i64 r1.w) := cell_of fd5.out 0 rfl
        have d51 : w5.cell? ⟨w4.heap.size, 1, none⟩ = some (.int .u64 r1.lo) := cell_of fd5.out 1 rfl
        have d52 : w5.cell? ⟨w4.heap.size, 2, none⟩ = some (.int .u64 r1.hi) := cell_of fd5.out 2 rfl
        have ld5 : w4.heap.size < w5.heap.size := by omega
        go_wp2_with fail
        go_ret
        exact ⟨rfl, by go_grown⟩
      · have hc1 : (c.lo == 1) = false := by rw [h5]; rfl
        have hc0 : (c.lo == 0) = true := by rw [h5]; rfl
        have a50 : w5.cell? ⟨w.heap.size, 0, none⟩ = some (.int .i64 a.w) := cell_of fa5.out 0 rfl
        have a51 : w5.cell? ⟨w.heap.size, 1, none⟩ = some (.int .u64 a.lo) := cell_of fa5.out 1 rfl
        have a52 : w5.cell? ⟨w.heap.size, 2, none⟩ = some (.int .u64 a.hi) := cell_of fa5.out 2 rfl
        have la5 : w.heap.size < w5.heap.size := by omega
        have b50 : w5.cell? ⟨w.heap.size + 1, 0, none⟩ = some (.int .i64 r1.w) := cell_of fb5.out 0 rfl
        have b51 : w5.cell? ⟨w.heap.size + 1, 1, none⟩ = some (.int .u64 r1.lo) := cell_of fb5.out 1 rfl
        have b52 : w5.cell? ⟨w.heap.size + 1, 2, none⟩ = some (.int .u64 r1.hi) := cell_of fb5.out 2 rfl
        have lb5 : w.heap.size + 1 < w5.heap.size := by omega
        have c50 : w5.cell? ⟨w.heap.size + 2, 0, none⟩ = some (.int .i64 c.w) := cell_of fc5.out 0 rfl
        have c51 : w5.cell? ⟨w.heap.size + 2, 1, none⟩ = some (.int .u64 c.lo) := cell_of fc5.out 1 rfl
        have c52 : w5.cell? ⟨w.heap.size + 2, 2, none⟩ = some (.int .u64 c.hi) := cell_of fc5.out 2 rfl
        have lc5 : w.heap.size + 2 < w5.heap.size := by omega
        have d50 : w5.cell? ⟨w4.heap.size, 0, none⟩ = some (.int .i64 r1.w) := cell_of fd5.out 0 rfl
        have d51 : w5.cell? ⟨w4.heap.size, 1, none⟩ = some (.int .u64 r1.lo) := cell_of fd5.out 1 rfl
        have d52 : w5.cell? ⟨w4.heap.size, 2, none⟩ = some (.int .u64 r1.hi) := cell_of fd5.out 2 rfl
        have ld5 : w4.heap.size < w5.heap.size := by omega
        go_wp2_with fail
        go_ret
        exact ⟨rfl, by go_grown⟩
    · go_wp2_with fail
      go_ret
      exact ⟨rfl, by go_grown⟩

set_option maxRecDepth 20000 in
set_option maxHeartbeats 12800000 in
theorem turn_18 {a b c r r1 r2 : Bt} {er e1 e2 m : Int} (HT : Hid (Ap 18 [a, b] r er)) (HU : Hid (Ap 18 [b, a] r er)) (HI : Hid (Ap 9 [c, a, b] r1 e1)) (HJ : Hid (Ap 9 [⟨0, 1 - m, 0⟩, b, a] r2 e2)) (hm : bits .and .u64 c.lo 1 = m) (hm2 : m = 0 ∨ m = 1)
    (HE : Hid ((e1 = 0 ∧ e2 = 0 ∧ r1 = r2 ∧ ((c.lo = 1 ∧ r1 = a) ∨ (c.lo = 0 ∧ r1 = b))) ∨ e1 = 30)) (w : World) :
    Calls Try.prog 3 #[.int .i64 18, .agg #[.int .i64 a.w, .int .u64 a.lo, .int .u64 a.hi], .agg #[.int .i64 b.w, .int .u64 b.lo, .int .u64 b.hi], .agg #[.int .i64 c.w, .int .u64 c.lo, .int .u64 c.hi]] w fun e w' => e = .returned (.bool true) ∧ Below w.heap.size w w' := by
  have hqe := eqb
  have hqn := neb
  go_enter Try.func3, Try.ntmps3
  go_wp2_with fail
  refine (known4 _).mono ?_
  rintro e w1 ⟨rfl, hb⟩
  have s1 : w.heap.size + 3 ≤ w1.heap.size := by have := hb.size; rw [size_alloc', size_alloc', size_alloc'] at this; exact this
  have B1 : Below w.heap.size w w1 := ((((Below.refl w.heap.size w).alloc (Nat.le_refl _) (.cells #[.int .i64 a.w, .int .u64 a.lo, .int .u64 a.hi] 24)).alloc (by rw [size_alloc']; omega) (.cells #[.int .i64 b.w, .int .u64 b.lo, .int .u64 b.hi] 24)).alloc (by rw [size_alloc', size_alloc']; omega) (.cells #[.int .i64 c.w, .int .u64 c.lo, .int .u64 c.hi] 24)).trans (hb.mono (by rw [size_alloc', size_alloc', size_alloc']; omega))
  have fa1 : Hid (w1.heap[w.heap.size]? = some (.cells #[.int .i64 a.w, .int .u64 a.lo, .int .u64 a.hi] 24)) := (hb.block _ (by rw [size_alloc', size_alloc', size_alloc']; omega)).trans ((heap_alloc_old _ _ (by rw [size_alloc', size_alloc']; omega)).trans ((heap_alloc_old _ _ (by rw [size_alloc']; omega)).trans (heap_alloc_new w (.cells #[.int .i64 a.w, .int .u64 a.lo, .int .u64 a.hi] 24))))
  have fb1 : Hid (w1.heap[w.heap.size + 1]? = some (.cells #[.int .i64 b.w, .int .u64 b.lo, .int .u64 b.hi] 24)) := (hb.block _ (by rw [size_alloc', size_alloc', size_alloc']; omega)).trans ((heap_alloc_old _ _ (by rw [size_alloc', size_alloc']; omega)).trans (by have := heap_alloc_new (w.alloc (.cells #[.int .i64 a.w, .int .u64 a.lo, .int .u64 a.hi] 24)) (.cells #[.int .i64 b.w, .int .u64 b.lo, .int .u64 b.hi] 24); rw [size_alloc'] at this; exact this))
  have fc1 : Hid (w1.heap[w.heap.size + 2]? = some (.cells #[.int .i64 c.w, .int .u64 c.lo, .int .u64 c.hi] 24)) := (hb.block _ (by rw [size_alloc', size_alloc', size_alloc']; omega)).trans (by have := heap_alloc_new ((w.alloc (.cells #[.int .i64 a.w, .int .u64 a.lo, .int .u64 a.hi] 24)).alloc (.cells #[.int .i64 b.w, .int .u64 b.lo, .int .u64 b.hi] 24)) (.cells #[.int .i64 c.w, .int .u64 c.lo, .int .u64 c.hi] 24); rw [size_alloc', size_alloc'] at this; exact this)
  clear hb
  have a10 : w1.cell? ⟨w.heap.size, 0, none⟩ = some (.int .i64 a.w) := cell_of fa1.out 0 rfl
  have a11 : w1.cell? ⟨w.heap.size, 1, none⟩ = some (.int .u64 a.lo) := cell_of fa1.out 1 rfl
  have a12 : w1.cell? ⟨w.heap.size, 2, none⟩ = some (.int .u64 a.hi) := cell_of fa1.out 2 rfl
  have la1 : w.heap.size < w1.heap.size := by omega
  have b10 : w1.cell? ⟨w.heap.size + 1, 0, none⟩ = some (.int .i64 b.w) := cell_of fb1.out 0 rfl
  have b11 : w1.cell? ⟨w.heap.size + 1, 1, none⟩ = some (.int .u64 b.lo) := cell_of fb1.out 1 rfl
  have b12 : w1.cell? ⟨w.heap.size + 1, 2, none⟩ = some (.int .u64 b.hi) := cell_of fb1.out 2 rfl
  have lb1 : w.heap.size + 1 < w1.heap.size := by omega
  go_wp2_with fail
  clear a10 a11 a12 b10 b11 b12 la1 lb1
  refine (HT.out _ _ 2 (by
    have hc := heap_alloc_new (w1) (.cells #[.int .i64 a.w, .int .u64 a.lo, .int .u64 a.hi, .int .i64 b.w, .int .u64 b.lo, .int .u64 b.hi] 24)
    exact lb_of2 hc) (by simp)).mono ?_
  rintro e w2 ⟨rfl, hb⟩
  have s2 : w1.heap.size + 1 ≤ w2.heap.size := by have := hb.size; rw [size_alloc'] at this; exact this
  have B2 : Below w.heap.size w w2 := (B1.alloc (by have := B1.size; omega) (.cells #[.int .i64 a.w, .int .u64 a.lo, .int .u64 a.hi, .int .i64 b.w, .int .u64 b.lo, .int .u64 b.hi] 24)).trans (hb.mono (by rw [size_alloc']; have := B1.size; omega))
  have fa2 : Hid (w2.heap[w.heap.size]? = some (.cells #[.int .i64 a.w, .int .u64 a.lo, .int .u64 a.hi] 24)) := (hb.block _ (by rw [size_alloc']; omega)).trans ((heap_alloc_old _ (.cells #[.int .i64 a.w, .int .u64 a.lo, .int .u64 a.hi, .int .i64 b.w, .int .u64 b.lo, .int .u64 b.hi] 24) (by omega)).trans (fa1.out))
  have fb2 : Hid (w2.heap[w.heap.size + 1]? = some (.cells #[.int .i64 b.w, .int .u64 b.lo, .int .u64 b.hi] 24)) := (hb.block _ (by rw [size_alloc']; omega)).trans ((heap_alloc_old _ (.cells #[.int .i64 a.w, .int .u64 a.lo, .int .u64 a.hi, .int .i64 b.w, .int .u64 b.lo, .int .u64 b.hi] 24) (by omega)).trans (fb1.out))
  have fc2 : Hid (w2.heap[w.heap.size + 2]? = some (.cells #[.int .i64 c.w, .int .u64 c.lo, .int .u64 c.hi] 24)) := (hb.block _ (by rw [size_alloc']; omega)).trans ((heap_alloc_old _ (.cells #[.int .i64 a.w, .int .u64 a.lo, .int .u64 a.hi, .int .i64 b.w, .int .u64 b.lo, .int .u64 b.hi] 24) (by omega)).trans (fc1.out))
  clear hb
  have a20 : w2.cell? ⟨w.heap.size, 0, none⟩ = some (.int .i64 a.w) := cell_of fa2.out 0 rfl
  have a21 : w2.cell? ⟨w.heap.size, 1, none⟩ = some (.int .u64 a.lo) := cell_of fa2.out 1 rfl
  have a22 : w2.cell? ⟨w.heap.size, 2, none⟩ = some (.int .u64 a.hi) := cell_of fa2.out 2 rfl
  have la2 : w.heap.size < w2.heap.size := by omega
  have b20 : w2.cell? ⟨w.heap.size + 1, 0, none⟩ = some (.int .i64 b.w) := cell_of fb2.out 0 rfl
  have b21 : w2.cell? ⟨w.heap.size + 1, 1, none⟩ = some (.int .u64 b.lo) := cell_of fb2.out 1 rfl
  have b22 : w2.cell? ⟨w.heap.size + 1, 2, none⟩ = some (.int .u64 b.hi) := cell_of fb2.out 2 rfl
  have lb2 : w.heap.size + 1 < w2.heap.size := by omega
  go_wp2_with fail
  clear a20 a21 a22 b20 b21 b22 la2 lb2
  refine (HU.out _ _ 2 (by
    have hc := heap_alloc_new (w2.alloc (.cells #[.int .i64 r.w, .int .u64 r.lo, .int .u64 r.hi] 24)) (.cells #[.int .i64 b.w, .int .u64 b.lo, .int .u64 b.hi, .int .i64 a.w, .int .u64 a.lo, .int .u64 a.hi] 24)
    rw [size_alloc'] at hc
    exact lb_of2 hc) (by simp)).mono ?_
  rintro e w3 ⟨rfl, hb⟩
  have s3 : w2.heap.size + 2 ≤ w3.heap.size := by have := hb.size; rw [size_alloc', size_alloc'] at this; exact this
  have B3 : Below w.heap.size w w3 := ((B2.alloc (by have := B2.size; omega) (.cells #[.int .i64 r.w, .int .u64 r.lo, .int .u64 r.hi] 24)).alloc (by rw [size_alloc']; have := B2.size; omega) (.cells #[.int .i64 b.w, .int .u64 b.lo, .int .u64 b.hi, .int .i64 a.w, .int .u64 a.lo, .int .u64 a.hi] 24)).trans (hb.mono (by rw [size_alloc', size_alloc']; have := B2.size; omega))
  have fa3 : Hid (w3.heap[w.heap.size]? = some (.cells #[.int .i64 a.w, .int .u64 a.lo, .int .u64 a.hi] 24)) := (hb.block _ (by rw [size_alloc', size_alloc']; omega)).trans ((heap_alloc_old _ (.cells #[.int .i64 b.w, .int .u64 b.lo, .int .u64 b.hi, .int .i64 a.w, .int .u64 a.lo, .int .u64 a.hi] 24) (by rw [size_alloc']; omega)).trans ((heap_alloc_old _ (.cells #[.int .i64 r.w, .int .u64 r.lo, .int .u64 r.hi] 24) (by omega)).trans (fa2.out)))
  have fb3 : Hid (w3.heap[w.heap.size + 1]? = some (.cells #[.int .i64 b.w, .int .u64 b.lo, .int .u64 b.hi] 24)) := (hb.block _ (by rw [size_alloc', size_alloc']; omega)).trans ((heap_alloc_old _ (.cells #[.int .i64 b.w, .int .u64 b.lo, .int .u64 b.hi, .int .i64 a.w, .int .u64 a.lo, .int .u64 a.hi] 24) (by rw [size_alloc']; omega)).trans ((heap_alloc_old _ (.cells #[.int .i64 r.w, .int .u64 r.lo, .int .u64 r.hi] 24) (by omega)).trans (fb2.out)))
  have fc3 : Hid (w3.heap[w.heap.size + 2]? = some (.cells #[.int .i64 c.w, .int .u64 c.lo, .int .u64 c.hi] 24)) := (hb.block _ (by rw [size_alloc', size_alloc']; omega)).trans ((heap_alloc_old _ (.cells #[.int .i64 b.w, .int .u64 b.lo, .int .u64 b.hi, .int .i64 a.w, .int .u64 a.lo, .int .u64 a.hi] 24) (by rw [size_alloc']; omega)).trans ((heap_alloc_old _ (.cells #[.int .i64 r.w, .int .u64 r.lo, .int .u64 r.hi] 24) (by omega)).trans (fc2.out)))
  have fx3 : Hid (w3.heap[w2.heap.size]? = some (.cells #[.int .i64 r.w, .int .u64 r.lo, .int .u64 r.hi] 24)) := (hb.block _ (by rw [size_alloc', size_alloc']; omega)).trans ((heap_alloc_old _ (.cells #[.int .i64 b.w, .int .u64 b.lo, .int .u64 b.hi, .int .i64 a.w, .int .u64 a.lo, .int .u64 a.hi] 24) (by rw [size_alloc']; omega)).trans (heap_alloc_new w2 (.cells #[.int .i64 r.w, .int .u64 r.lo, .int .u64 r.hi] 24)))
  clear hb
  have hee : (er != er) = false := by simp
  have a30 : w3.cell? ⟨w.heap.size, 0, none⟩ = some (.int .i64 a.w) := cell_of fa3.out 0 rfl
  have a31 : w3.cell? ⟨w.heap.size, 1, none⟩ = some (.int .u64 a.lo) := cell_of fa3.out 1 rfl
  have a32 : w3.cell? ⟨w.heap.size, 2, none⟩ = some (.int .u64 a.hi) := cell_of fa3.out 2 rfl
  have la3 : w.heap.size < w3.heap.size := by omega
  have b30 : w3.cell? ⟨w.heap.size + 1, 0, none⟩ = some (.int .i64 b.w) := cell_of fb3.out 0 rfl
  have b31 : w3.cell? ⟨w.heap.size + 1, 1, none⟩ = some (.int .u64 b.lo) := cell_of fb3.out 1 rfl
  have b32 : w3.cell? ⟨w.heap.size + 1, 2, none⟩ = some (.int .u64 b.hi) := cell_of fb3.out 2 rfl
  have lb3 : w.heap.size + 1 < w3.heap.size := by omega
  have c30 : w3.cell? ⟨w.heap.size + 2, 0, none⟩ = some (.int .i64 c.w) := cell_of fc3.out 0 rfl
  have c31 : w3.cell? ⟨w.heap.size + 2, 1, none⟩ = some (.int .u64 c.lo) := cell_of fc3.out 1 rfl
  have c32 : w3.cell? ⟨w.heap.size + 2, 2, none⟩ = some (.int .u64 c.hi) := cell_of fc3.out 2 rfl
  have lc3 : w.heap.size + 2 < w3.heap.size := by omega
  have x30 : w3.cell? ⟨w2.heap.size, 0, none⟩ = some (.int .i64 r.w) := cell_of fx3.out 0 rfl
  have x31 : w3.cell? ⟨w2.heap.size, 1, none⟩ = some (.int .u64 r.lo) := cell_of fx3.out 1 rfl
  have x32 : w3.cell? ⟨w2.heap.size, 2, none⟩ = some (.int .u64 r.hi) := cell_of fx3.out 2 rfl
  have lx3 : w2.heap.size < w3.heap.size := by omega
  go_wp2_with fail
  clear a30 a31 a32 b30 b31 b32 c30 c31 c32 x30 x31 x32 la3 lb3 lc3 lx3
  clear hee
  refine (HI.out _ _ 3 (by
    have hc := heap_alloc_new (w3.alloc (.cells #[.int .i64 r.w, .int .u64 r.lo, .int .u64 r.hi] 24)) (.cells #[.int .i64 c.w, .int .u64 c.lo, .int .u64 c.hi, .int .i64 a.w, .int .u64 a.lo, .int .u64 a.hi, .int .i64 b.w, .int .u64 b.lo, .int .u64 b.hi] 24)
    rw [size_alloc'] at hc
    exact lb_of3 hc) (by simp)).mono ?_
  rintro e w4 ⟨rfl, hb⟩
  have s4 : w3.heap.size + 2 ≤ w4.heap.size := by have := hb.size; rw [size_alloc', size_alloc'] at this; exact this
  have B4 : Below w.heap.size w w4 := ((B3.alloc (by have := B3.size; omega) (.cells #[.int .i64 r.w, .int .u64 r.lo, .int .u64 r.hi] 24)).alloc (by rw [size_alloc']; have := B3.size; omega) (.cells #[.int .i64 c.w, .int .u64 c.lo, .int .u64 c.hi, .int .i64 a.w, .int .u64 a.lo, .int .u64 a.hi, .int .i64 b.w, .int .u64 b.lo, .int .u64 b.hi] 24)).trans (hb.mono (by rw [size_alloc', size_alloc']; have := B3.size; omega))
  have fa4 : Hid (w4.heap[w.heap.size]? = some (.cells #[.int .i64 a.w, .int .u64 a.lo, .int .u64 a.hi] 24)) := (hb.block _ (by rw [size_alloc', size_alloc']; omega)).trans ((heap_alloc_old _ (.cells #[.int .i64 c.w, .int .u64 c.lo, .int .u64 c.hi, .int .i64 a.w, .int .u64 a.lo, .int .u64 a.hi, .int .i64 b.w, .int .u64 b.lo, .int .u64 b.hi] 24) (by rw [size_alloc']; omega)).trans ((heap_alloc_old _ (.cells #[.int .i64 r.w, .int .u64 r.lo, .int .u64 r.hi] 24) (by omega)).trans (fa3.out)))
  have fb4 : Hid (w4.heap[w.heap.size + 1]? = some (.cells #[.int .i64 b.w, .int .u64 b.lo, .int .u64 b.hi] 24)) := (hb.block _ (by rw [size_alloc', size_alloc']; omega)).trans ((heap_alloc_old _ (.cells #[.int .i64 c.w, .int .u64 c.lo, .int .u64 c.hi, .int .i64 a.w, .int .u64 a.lo, .int .u64 a.hi, .int .i64 b.w, .int .u64 b.lo, .int .u64 b.hi] 24) (by rw [size_alloc']; omega)).trans ((heap_alloc_old _ (.cells #[.int .i64 r.w, .int .u64 r.lo, .int .u64 r.hi] 24) (by omega)).trans (fb3.out)))
  have fc4 : Hid (w4.heap[w.heap.size + 2]? = some (.cells #[.int .i64 c.w, .int .u64 c.lo, .int .u64 c.hi] 24)) := (hb.block _ (by rw [size_alloc', size_alloc']; omega)).trans ((heap_alloc_old _ (.cells #[.int .i64 c.w, .int .u64 c.lo, .int .u64 c.hi, .int .i64 a.w, .int .u64 a.lo, .int .u64 a.hi, .int .i64 b.w, .int .u64 b.lo, .int .u64 b.hi] 24) (by rw [size_alloc']; omega)).trans ((heap_alloc_old _ (.cells #[.int .i64 r.w, .int .u64 r.lo, .int .u64 r.hi] 24) (by omega)).trans (fc3.out)))
  clear hb
  have a40 : w4.cell? ⟨w.heap.size, 0, none⟩ = some (.int .i64 a.w) := cell_of fa4.out 0 rfl
  have a41 : w4.cell? ⟨w.heap.size, 1, none⟩ = some (.int .u64 a.lo) := cell_of fa4.out 1 rfl
  have a42 : w4.cell? ⟨w.heap.size, 2, none⟩ = some (.int .u64 a.hi) := cell_of fa4.out 2 rfl
  have la4 : w.heap.size < w4.heap.size := by omega
  have b40 : w4.cell? ⟨w.heap.size + 1, 0, none⟩ = some (.int .i64 b.w) := cell_of fb4.out 0 rfl
  have b41 : w4.cell? ⟨w.heap.size + 1, 1, none⟩ = some (.int .u64 b.lo) := cell_of fb4.out 1 rfl
  have b42 : w4.cell? ⟨w.heap.size + 1, 2, none⟩ = some (.int .u64 b.hi) := cell_of fb4.out 2 rfl
  have lb4 : w.heap.size + 1 < w4.heap.size := by omega
  have c40 : w4.cell? ⟨w.heap.size + 2, 0, none⟩ = some (.int .i64 c.w) := cell_of fc4.out 0 rfl
  have c41 : w4.cell? ⟨w.heap.size + 2, 1, none⟩ = some (.int .u64 c.lo) := cell_of fc4.out 1 rfl
  have c42 : w4.cell? ⟨w.heap.size + 2, 2, none⟩ = some (.int .u64 c.hi) := cell_of fc4.out 2 rfl
  have lc4 : w.heap.size + 2 < w4.heap.size := by omega
  rcases hm2 with rfl | rfl
  · go_wp2_with fail
    clear a40 a41 a42 b40 b41 b42 c40 c41 c42 la4 lb4 lc4
    refine (HJ.out _ _ 3 (by
      have hc := heap_alloc_new (w4.alloc (.cells #[.int .i64 r1.w, .int .u64 r1.lo, .int .u64 r1.hi] 24)) (.cells #[.int .i64 0, .int .u64 1, .int .u64 0, .int .i64 b.w, .int .u64 b.lo, .int .u64 b.hi, .int .i64 a.w, .int .u64 a.lo, .int .u64 a.hi] 24)
      rw [size_alloc'] at hc
      exact lb_of3 hc) (by simp)).mono ?_
    rintro e w5 ⟨rfl, hb⟩
    have s5 : w4.heap.size + 2 ≤ w5.heap.size := by have := hb.size; rw [size_alloc', size_alloc'] at this; exact this
    have B5 : Below w.heap.size w w5 := ((B4.alloc (by have := B4.size; omega) (.cells #[.int .i64 r1.w, .int .u64 r1.lo, .int .u64 r1.hi] 24)).alloc (by rw [size_alloc']; have := B4.size; omega) (.cells #[.int .i64 0, .int .u64 1, .int .u64 0, .int .i64 b.w, .int .u64 b.lo, .int .u64 b.hi, .int .i64 a.w, .int .u64 a.lo, .int .u64 a.hi] 24)).trans (hb.mono (by rw [size_alloc', size_alloc']; have := B4.size; omega))
    have fa5 : Hid (w5.heap[w.heap.size]? = some (.cells #[.int .i64 a.w, .int .u64 a.lo, .int .u64 a.hi] 24)) := (hb.block _ (by rw [size_alloc', size_alloc']; omega)).trans ((heap_alloc_old _ (.cells #[.int .i64 0, .int .u64 1, .int .u64 0, .int .i64 b.w, .int .u64 b.lo, .int .u64 b.hi, .int .i64 a.w, .int .u64 a.lo, .int .u64 a.hi] 24) (by rw [size_alloc']; omega)).trans ((heap_alloc_old _ (.cells #[.int .i64 r1.w, .int .u64 r1.lo, .int .u64 r1.hi] 24) (by omega)).trans (fa4.out)))
    have fb5 : Hid (w5.heap[w.heap.size + 1]? = some (.cells #[.int .i64 b.w, .int .u64 b.lo, .int .u64 b.hi] 24)) := (hb.block _ (by rw [size_alloc', size_alloc']; omega)).trans ((heap_alloc_old _ (.cells #[.int .i64 0, .int .u64 1, .int .u64 0, .int .i64 b.w, .int .u64 b.lo, .int .u64 b.hi, .int .i64 a.w, .int .u64 a.lo, .int .u64 a.hi] 24) (by rw [size_alloc']; omega)).trans ((heap_alloc_old _ (.cells #[.int .i64 r1.w, .int .u64 r1.lo, .int .u64 r1.hi] 24) (by omega)).trans (fb4.out)))
    have fc5 : Hid (w5.heap[w.heap.size + 2]? = some (.cells #[.int .i64 c.w, .int .u64 c.lo, .int .u64 c.hi] 24)) := (hb.block _ (by rw [size_alloc', size_alloc']; omega)).trans ((heap_alloc_old _ (.cells #[.int .i64 0, .int .u64 1, .int .u64 0, .int .i64 b.w, .int .u64 b.lo, .int .u64 b.hi, .int .i64 a.w, .int .u64 a.lo, .int .u64 a.hi] 24) (by rw [size_alloc']; omega)).trans ((heap_alloc_old _ (.cells #[.int .i64 r1.w, .int .u64 r1.lo, .int .u64 r1.hi] 24) (by omega)).trans (fc4.out)))
    have fd5 : Hid (w5.heap[w4.heap.size]? = some (.cells #[.int .i64 r1.w, .int .u64 r1.lo, .int .u64 r1.hi] 24)) := (hb.block _ (by rw [size_alloc', size_alloc']; omega)).trans ((heap_alloc_old _ (.cells #[.int .i64 0, .int .u64 1, .int .u64 0, .int .i64 b.w, .int .u64 b.lo, .int .u64 b.hi, .int .i64 a.w, .int .u64 a.lo, .int .u64 a.hi] 24) (by rw [size_alloc']; omega)).trans (heap_alloc_new w4 (.cells #[.int .i64 r1.w, .int .u64 r1.lo, .int .u64 r1.hi] 24)))
    clear hb
    rcases HE.out with ⟨rfl, rfl, h3, h4⟩ | rfl
    · subst h3
      rcases h4 with ⟨h5, rfl⟩ | ⟨h5, rfl⟩
      · have hc1 : (c.lo == 1) = true := by rw [h5]; rfl
        have hc0 : (c.lo == 0) = false := by rw [h5]; rfl
        have a50 : w5.cell? ⟨w.heap.size, 0, none⟩ = some (.int .i64 r1.w) := cell_of fa5.out 0 rfl
        have a51 : w5.cell? ⟨w.heap.size, 1, none⟩ = some (.int .u64 r1.lo) := cell_of fa5.out 1 rfl
        have a52 : w5.cell? ⟨w.heap.size, 2, none⟩ = some (.int .u64 r1.hi) := cell_of fa5.out 2 rfl
        have la5 : w.heap.size < w5.heap.size := by omega
        have b50 : w5.cell? ⟨w.heap.size + 1, 0, none⟩ = some (.int .i64 b.w) := cell_of fb5.out 0 rfl
        have b51 : w5.cell? ⟨w.heap.size + 1, 1, none⟩ = some (.int .u64 b.lo) := cell_of fb5.out 1 rfl
        have b52 : w5.cell? ⟨w.heap.size + 1, 2, none⟩ = some (.int .u64 b.hi) := cell_of fb5.out 2 rfl
        have lb5 : w.heap.size + 1 < w5.heap.size := by omega
        have c50 : w5.cell? ⟨w.heap.size + 2, 0, none⟩ = some (.int .i64 c.w) := cell_of fc5.out 0 rfl
        have c51 : w5.cell? ⟨w.heap.size + 2, 1, none⟩ = some (.int .u64 c.lo) := cell_of fc5.out 1 rfl
        have c52 : w5.cell? ⟨w.heap.size + 2, 2, none⟩ = some (.int .u64 c.hi) := cell_of fc5.out 2 rfl
        have lc5 : w.heap.size + 2 < w5.heap.size := by omega
        have d50 : w5.cell? ⟨w4.heap.size, 0, none⟩ = some (.int .i64 r1.w) := cell_of fd5.out 0 rfl
        have d51 : w5.cell? ⟨w4.heap.size, 1, none⟩ = some (.int .u64 r1.lo) := cell_of fd5.out 1 rfl
        have d52 : w5.cell? ⟨w4.heap.size, 2, none⟩ = some (.int .u64 r1.hi) := cell_of fd5.out 2 rfl
        have ld5 : w4.heap.size < w5.heap.size := by omega
        go_wp2_with fail
        go_ret
        exact ⟨rfl, by go_grown⟩
      · have hc1 : (c.lo == 1) = false := by rw [h5]; rfl
        have hc0 : (c.lo == 0) = true := by rw [h5]; rfl
        have a50 : w5.cell? ⟨w.heap.size, 0, none⟩ = some (.int .i64 a.w) := cell_of fa5.out 0 rfl
        have a51 : w5.cell? ⟨w.heap.size, 1, none⟩ = some (.int .u64 a.lo) := cell_of fa5.out 1 rfl
        have a52 : w5.cell? ⟨w.heap.size, 2, none⟩ = some (.int .u64 a.hi) := cell_of fa5.out 2 rfl
        have la5 : w.heap.size < w5.heap.size := by omega
        have b50 : w5.cell? ⟨w.heap.size + 1, 0, none⟩ = some (.int .i64 r1.w) := cell_of fb5.out 0 rfl
        have b51 : w5.cell? ⟨w.heap.size + 1, 1, none⟩ = some (.int .u64 r1.lo) := cell_of fb5.out 1 rfl
        have b52 : w5.cell? ⟨w.heap.size + 1, 2, none⟩ = some (.int .u64 r1.hi) := cell_of fb5.out 2 rfl
        have lb5 : w.heap.size + 1 < w5.heap.size := by omega
        have c50 : w5.cell? ⟨w.heap.size + 2, 0, none⟩ = some (.int .i64 c.w) := cell_of fc5.out 0 rfl
        have c51 : w5.cell? ⟨w.heap.size + 2, 1, none⟩ = some (.int .u64 c.lo) := cell_of fc5.out 1 rfl
        have c52 : w5.cell? ⟨w.heap.size + 2, 2, none⟩ = some (.int .u64 c.hi) := cell_of fc5.out 2 rfl
        have lc5 : w.heap.size + 2 < w5.heap.size := by omega
        have d50 : w5.cell? ⟨w4.heap.size, 0, none⟩ = some (.int .i64 r1.w) := cell_of fd5.out 0 rfl
        have d51 : w5.cell? ⟨w4.heap.size, 1, none⟩ = some (.int .u64 r1.lo) := cell_of fd5.out 1 rfl
        have d52 : w5.cell? ⟨w4.heap.size, 2, none⟩ = some (.int .u64 r1.hi) := cell_of fd5.out 2 rfl
        have ld5 : w4.heap.size < w5.heap.size := by omega
        go_wp2_with fail
        go_ret
        exact ⟨rfl, by go_grown⟩
    · go_wp2_with fail
      go_ret
      exact ⟨rfl, by go_grown⟩
  · go_wp2_with fail
    clear a40 a41 a42 b40 b41 b42 c40 c41 c42 la4 lb4 lc4
    refine (HJ.out _ _ 3 (by
      have hc := heap_alloc_new (w4.alloc (.cells #[.int .i64 r1.w, .int .u64 r1.lo, .int .u64 r1.hi] 24)) (.cells #[.int .i64 0, .int .u64 0, .int .u64 0, .int .i64 b.w, .int .u64 b.lo, .int .u64 b.hi, .int .i64 a.w, .int .u64 a.lo, .int .u64 a.hi] 24)
      rw [size_alloc'] at hc
      exact lb_of3 hc) (by simp)).mono ?_
    rintro e w5 ⟨rfl, hb⟩
    have s5 : w4.heap.size + 2 ≤ w5.heap.size := by have := hb.size; rw [size_alloc', size_alloc'] at this; exact this
    have B5 : Below w.heap.size w w5 := ((B4.alloc (by have := B4.size; omega) (.cells #[.int .i64 r1.w, .int .u64 r1.lo, .int .u64 r1.hi] 24)).alloc (by rw [size_alloc']; have := B4.size; omega) (.cells #[.int .i64 0, .int .u64 0, .int .u64 0, .int .i64 b.w, .int .u64 b.lo, .int .u64 b.hi, .int .i64 a.w, .int .u64 a.lo, .int .u64 a.hi] 24)).trans (hb.mono (by rw [size_alloc', size_alloc']; have := B4.size; omega))
    have fa5 : Hid (w5.heap[w.heap.size]? = some (.cells #[.int .i64 a.w, .int .u64 a.lo, .int .u64 a.hi] 24)) := (hb.block _ (by rw [size_alloc', size_alloc']; omega)).trans ((heap_alloc_old _ (.cells #[.int .i64 0, .int .u64 0, .int .u64 0, .int .i64 b.w, .int .u64 b.lo, .int .u64 b.hi, .int .i64 a.w, .int .u64 a.lo, .int .u64 a.hi] 24) (by rw [size_alloc']; omega)).trans ((heap_alloc_old _ (.cells #[.int .i64 r1.w, .int .u64 r1.lo, .int .u64 r1.hi] 24) (by omega)).trans (fa4.out)))
    have fb5 : Hid (w5.heap[w.heap.size + 1]? = some (.cells #[.int .i64 b.w, .int .u64 b.lo, .int .u64 b.hi] 24)) := (hb.block _ (by rw [size_alloc', size_alloc']; omega)).trans ((heap_alloc_old _ (.cells #[.int .i64 0, .int .u64 0, .int .u64 0, .int .i64 b.w, .int .u64 b.lo, .int .u64 b.hi, .int .i64 a.w, .int .u64 a.lo, .int .u64 a.hi] 24) (by rw [size_alloc']; omega)).trans ((heap_alloc_old _ (.cells #[.int .i64 r1.w, .int .u64 r1.lo, .int .u64 r1.hi] 24) (by omega)).trans (fb4.out)))
    have fc5 : Hid (w5.heap[w.heap.size + 2]? = some (.cells #[.int .i64 c.w, .int .u64 c.lo, .int .u64 c.hi] 24)) := (hb.block _ (by rw [size_alloc', size_alloc']; omega)).trans ((heap_alloc_old _ (.cells #[.int .i64 0, .int .u64 0, .int .u64 0, .int .i64 b.w, .int .u64 b.lo, .int .u64 b.hi, .int .i64 a.w, .int .u64 a.lo, .int .u64 a.hi] 24) (by rw [size_alloc']; omega)).trans ((heap_alloc_old _ (.cells #[.int .i64 r1.w, .int .u64 r1.lo, .int .u64 r1.hi] 24) (by omega)).trans (fc4.out)))
    have fd5 : Hid (w5.heap[w4.heap.size]? = some (.cells #[.int .i64 r1.w, .int .u64 r1.lo, .int .u64 r1.hi] 24)) := (hb.block _ (by rw [size_alloc', size_alloc']; omega)).trans ((heap_alloc_old _ (.cells #[.int .i64 0, .int .u64 0, .int .u64 0, .int .i64 b.w, .int .u64 b.lo, .int .u64 b.hi, .int .i64 a.w, .int .u64 a.lo, .int .u64 a.hi] 24) (by rw [size_alloc']; omega)).trans (heap_alloc_new w4 (.cells #[.int .i64 r1.w, .int .u64 r1.lo, .int .u64 r1.hi] 24)))
    clear hb
    rcases HE.out with ⟨rfl, rfl, h3, h4⟩ | rfl
    · subst h3
      rcases h4 with ⟨h5, rfl⟩ | ⟨h5, rfl⟩
      · have hc1 : (c.lo == 1) = true := by rw [h5]; rfl
        have hc0 : (c.lo == 0) = false := by rw [h5]; rfl
        have a50 : w5.cell? ⟨w.heap.size, 0, none⟩ = some (.int .i64 r1.w) := cell_of fa5.out 0 rfl
        have a51 : w5.cell? ⟨w.heap.size, 1, none⟩ = some (.int .u64 r1.lo) := cell_of fa5.out 1 rfl
        have a52 : w5.cell? ⟨w.heap.size, 2, none⟩ = some (.int .u64 r1.hi) := cell_of fa5.out 2 rfl
        have la5 : w.heap.size < w5.heap.size := by omega
        have b50 : w5.cell? ⟨w.heap.size + 1, 0, none⟩ = some (.int .i64 b.w) := cell_of fb5.out 0 rfl
        have b51 : w5.cell? ⟨w.heap.size + 1, 1, none⟩ = some (.int .u64 b.lo) := cell_of fb5.out 1 rfl
        have b52 : w5.cell? ⟨w.heap.size + 1, 2, none⟩ = some (.int .u64 b.hi) := cell_of fb5.out 2 rfl
        have lb5 : w.heap.size + 1 < w5.heap.size := by omega
        have c50 : w5.cell? ⟨w.heap.size + 2, 0, none⟩ = some (.int .i64 c.w) := cell_of fc5.out 0 rfl
        have c51 : w5.cell? ⟨w.heap.size + 2, 1, none⟩ = some (.int .u64 c.lo) := cell_of fc5.out 1 rfl
        have c52 : w5.cell? ⟨w.heap.size + 2, 2, none⟩ = some (.int .u64 c.hi) := cell_of fc5.out 2 rfl
        have lc5 : w.heap.size + 2 < w5.heap.size := by omega
        have d50 : w5.cell? ⟨w4.heap.size, 0, none⟩ = some (.int .i64 r1.w) := cell_of fd5.out 0 rfl
        have d51 : w5.cell? ⟨w4.heap.size, 1, none⟩ = some (.int .u64 r1.lo) := cell_of fd5.out 1 rfl
        have d52 : w5.cell? ⟨w4.heap.size, 2, none⟩ = some (.int .u64 r1.hi) := cell_of fd5.out 2 rfl
        have ld5 : w4.heap.size < w5.heap.size := by omega
        go_wp2_with fail
        go_ret
        exact ⟨rfl, by go_grown⟩
      · have hc1 : (c.lo == 1) = false := by rw [h5]; rfl
        have hc0 : (c.lo == 0) = true := by rw [h5]; rfl
        have a50 : w5.cell? ⟨w.heap.size, 0, none⟩ = some (.int .i64 a.w) := cell_of fa5.out 0 rfl
        have a51 : w5.cell? ⟨w.heap.size, 1, none⟩ = some (.int .u64 a.lo) := cell_of fa5.out 1 rfl
        have a52 : w5.cell? ⟨w.heap.size, 2, none⟩ = some (.int .u64 a.hi) := cell_of fa5.out 2 rfl
        have la5 : w.heap.size < w5.heap.size := by omega
        have b50 : w5.cell? ⟨w.heap.size + 1, 0, none⟩ = some (.int .i64 r1.w) := cell_of fb5.out 0 rfl
        have b51 : w5.cell? ⟨w.heap.size + 1, 1, none⟩ = some (.int .u64 r1.lo) := cell_of fb5.out 1 rfl
        have b52 : w5.cell? ⟨w.heap.size + 1, 2, none⟩ = some (.int .u64 r1.hi) := cell_of fb5.out 2 rfl
        have lb5 : w.heap.size + 1 < w5.heap.size := by omega
        have c50 : w5.cell? ⟨w.heap.size + 2, 0, none⟩ = some (.int .i64 c.w) := cell_of fc5.out 0 rfl
        have c51 : w5.cell? ⟨w.heap.size + 2, 1, none⟩ = some (.int .u64 c.lo) := cell_of fc5.out 1 rfl
        have c52 : w5.cell? ⟨w.heap.size + 2, 2, none⟩ = some (.int .u64 c.hi) := cell_of fc5.out 2 rfl
        have lc5 : w.heap.size + 2 < w5.heap.size := by omega
        have d50 : w5.cell? ⟨w4.heap.size, 0, none⟩ = some (.int .i64 r1.w) := cell_of fd5.out 0 rfl
        have d51 : w5.cell? ⟨w4.heap.size, 1, none⟩ = some (.int .u64 r1.lo) := cell_of fd5.out 1 rfl
        have d52 : w5.cell? ⟨w4.heap.size, 2, none⟩ = some (.int .u64 r1.hi) := cell_of fd5.out 2 rfl
        have ld5 : w4.heap.size < w5.heap.size := by omega
        go_wp2_with fail
        go_ret
        exact ⟨rfl, by go_grown⟩
    · go_wp2_with fail
      go_ret
      exact ⟨rfl, by go_grown⟩

set_option maxRecDepth 20000 in
set_option maxHeartbeats 12800000 in
theorem turn_20 {a b c r r1 r2 : Bt} {er e1 e2 m : Int} (HT : Hid (Ap 20 [a, b] r er)) (HU : Hid (Ap 20 [b, a] r er)) (HI : Hid (Ap 9 [c, a, b] r1 e1)) (HJ : Hid (Ap 9 [⟨0, 1 - m, 0⟩, b, a] r2 e2)) (hm : bits .and .u64 c.lo 1 = m) (hm2 : m = 0 ∨ m = 1)
    (HE : Hid ((e1 = 0 ∧ e2 = 0 ∧ r1 = r2 ∧ ((c.lo = 1 ∧ r1 = a) ∨ (c.lo = 0 ∧ r1 = b))) ∨ e1 = 30)) (w : World) :
    Calls Try.prog 3 #[.int .i64 20, .agg #[.int .i64 a.w, .int .u64 a.lo, .int .u64 a.hi], .agg #[.int .i64 b.w, .int .u64 b.lo, .int .u64 b.hi], .agg #[.int .i64 c.w, .int .u64 c.lo, .int .u64 c.hi]] w fun e w' => e = .returned (.bool true) ∧ Below w.heap.size w w' := by
  have hqe := eqb
  have hqn := neb
  go_enter Try.func3, Try.ntmps3
  go_wp2_with fail
  refine (known4 _).mono ?_
  rintro e w1 ⟨rfl, hb⟩
  have s1 : w.heap.size + 3 ≤ w1.heap.size := by have := hb.size; rw [size_alloc', size_alloc', size_alloc'] at this; exact this
  have B1 : Below w.heap.size w w1 := ((((Below.refl w.heap.size w).alloc (Nat.le_refl _) (.cells #[.int .i64 a.w, .int .u64 a.lo, .int .u64 a.hi] 24)).alloc (by rw [size_alloc']; omega) (.cells #[.int .i64 b.w, .int .u64 b.lo, .int .u64 b.hi] 24)).alloc (by rw [size_alloc', size_alloc']; omega) (.cells #[.int .i64 c.w, .int .u64 c.lo, .int .u64 c.hi] 24)).trans (hb.mono (by rw [size_alloc', size_alloc', size_alloc']; omega))
  have fa1 : Hid (w1.heap[w.heap.size]? = some (.cells #[.int .i64 a.w, .int .u64 a.lo, .int .u64 a.hi] 24)) := (hb.block _ (by rw [size_alloc', size_alloc', size_alloc']; omega)).trans ((heap_alloc_old _ _ (by rw [size_alloc', size_alloc']; omega)).trans ((heap_alloc_old _ _ (by rw [size_alloc']; omega)).trans (heap_alloc_new w (.cells #[.int .i64 a.w, .int .u64 a.lo, .int .u64 a.hi] 24))))
  have fb1 : Hid (w1.heap[w.heap.size + 1]? = some (.cells #[.int .i64 b.w, .int .u64 b.lo, .int .u64 b.hi] 24)) := (hb.block _ (by rw [size_alloc', size_alloc', size_alloc']; omega)).trans ((heap_alloc_old _ _ (by rw [size_alloc', size_alloc']; omega)).trans (by have := heap_alloc_new (w.alloc (.cells #[.int .i64 a.w, .int .u64 a.lo, .int .u64 a.hi] 24)) (.cells #[.int .i64 b.w, .int .u64 b.lo, .int .u64 b.hi] 24); rw [size_alloc'] at this; exact this))
  have fc1 : Hid (w1.heap[w.heap.size + 2]? = some (.cells #[.int .i64 c.w, .int .u64 c.lo, .int .u64 c.hi] 24)) := (hb.block _ (by rw [size_alloc', size_alloc', size_alloc']; omega)).trans (by have := heap_alloc_new ((w.alloc (.cells #[.int .i64 a.w, .int .u64 a.lo, .int .u64 a.hi] 24)).alloc (.cells #[.int .i64 b.w, .int .u64 b.lo, .int .u64 b.hi] 24)) (.cells #[.int .i64 c.w, .int .u64 c.lo, .int .u64 c.hi] 24); rw [size_alloc', size_alloc'] at this; exact this)
  clear hb
  have a10 : w1.cell? ⟨w.heap.size, 0, none⟩ = some (.int .i64 a.w) := cell_of fa1.out 0 rfl
  have a11 : w1.cell? ⟨w.heap.size, 1, none⟩ = some (.int .u64 a.lo) := cell_of fa1.out 1 rfl
  have a12 : w1.cell? ⟨w.heap.size, 2, none⟩ = some (.int .u64 a.hi) := cell_of fa1.out 2 rfl
  have la1 : w.heap.size < w1.heap.size := by omega
  have b10 : w1.cell? ⟨w.heap.size + 1, 0, none⟩ = some (.int .i64 b.w) := cell_of fb1.out 0 rfl
  have b11 : w1.cell? ⟨w.heap.size + 1, 1, none⟩ = some (.int .u64 b.lo) := cell_of fb1.out 1 rfl
  have b12 : w1.cell? ⟨w.heap.size + 1, 2, none⟩ = some (.int .u64 b.hi) := cell_of fb1.out 2 rfl
  have lb1 : w.heap.size + 1 < w1.heap.size := by omega
  go_wp2_with fail
  clear a10 a11 a12 b10 b11 b12 la1 lb1
  refine (HT.out _ _ 2 (by
    have hc := heap_alloc_new (w1) (.cells #[.int .i64 a.w, .int .u64 a.lo, .int .u64 a.hi, .int .i64 b.w, .int .u64 b.lo, .int .u64 b.hi] 24)
    exact lb_of2 hc) (by simp)).mono ?_
  rintro e w2 ⟨rfl, hb⟩
  have s2 : w1.heap.size + 1 ≤ w2.heap.size := by have := hb.size; rw [size_alloc'] at this; exact this
  have B2 : Below w.heap.size w w2 := (B1.alloc (by have := B1.size; omega) (.cells #[.int .i64 a.w, .int .u64 a.lo, .int .u64 a.hi, .int .i64 b.w, .int .u64 b.lo, .int .u64 b.hi] 24)).trans (hb.mono (by rw [size_alloc']; have := B1.size; omega))
  have fa2 : Hid (w2.heap[w.heap.size]? = some (.cells #[.int .i64 a.w, .int .u64 a.lo, .int .u64 a.hi] 24)) := (hb.block _ (by rw [size_alloc']; omega)).trans ((heap_alloc_old _ (.cells #[.int .i64 a.w, .int .u64 a.lo, .int .u64 a.hi, .int .i64 b.w, .int .u64 b.lo, .int .u64 b.hi] 24) (by omega)).trans (fa1.out))
  have fb2 : Hid (w2.heap[w.heap.size + 1]? = some (.cells #[.int .i64 b.w, .int .u64 b.lo, .int .u64 b.hi] 24)) := (hb.block _ (by rw [size_alloc']; omega)).trans ((heap_alloc_old _ (.cells #[.int .i64 a.w, .int .u64 a.lo, .int .u64 a.hi, .int .i64 b.w, .int .u64 b.lo, .int .u64 b.hi] 24) (by omega)).trans (fb1.out))
  have fc2 : Hid (w2.heap[w.heap.size + 2]? = some (.cells #[.int .i64 c.w, .int .u64 c.lo, .int .u64 c.hi] 24)) := (hb.block _ (by rw [size_alloc']; omega)).trans ((heap_alloc_old _ (.cells #[.int .i64 a.w, .int .u64 a.lo, .int .u64 a.hi, .int .i64 b.w, .int .u64 b.lo, .int .u64 b.hi] 24) (by omega)).trans (fc1.out))
  clear hb
  have a20 : w2.cell? ⟨w.heap.size, 0, none⟩ = some (.int .i64 a.w) := cell_of fa2.out 0 rfl
  have a21 : w2.cell? ⟨w.heap.size, 1, none⟩ = some (.int .u64 a.lo) := cell_of fa2.out 1 rfl
  have a22 : w2.cell? ⟨w.heap.size, 2, none⟩ = some (.int .u64 a.hi) := cell_of fa2.out 2 rfl
  have la2 : w.heap.size < w2.heap.size := by omega
  have b20 : w2.cell? ⟨w.heap.size + 1, 0, none⟩ = some (.int .i64 b.w) := cell_of fb2.out 0 rfl
  have b21 : w2.cell? ⟨w.heap.size + 1, 1, none⟩ = some (.int .u64 b.lo) := cell_of fb2.out 1 rfl
  have b22 : w2.cell? ⟨w.heap.size + 1, 2, none⟩ = some (.int .u64 b.hi) := cell_of fb2.out 2 rfl
  have lb2 : w.heap.size + 1 < w2.heap.size := by omega
  go_wp2_with fail
  clear a20 a21 a22 b20 b21 b22 la2 lb2
  refine (HU.out _ _ 2 (by
    have hc := heap_alloc_new (w2.alloc (.cells #[.int .i64 r.w, .int .u64 r.lo, .int .u64 r.hi] 24)) (.cells #[.int .i64 b.w, .int .u64 b.lo, .int .u64 b.hi, .int .i64 a.w, .int .u64 a.lo, .int .u64 a.hi] 24)
    rw [size_alloc'] at hc
    exact lb_of2 hc) (by simp)).mono ?_
  rintro e w3 ⟨rfl, hb⟩
  have s3 : w2.heap.size + 2 ≤ w3.heap.size := by have := hb.size; rw [size_alloc', size_alloc'] at this; exact this
  have B3 : Below w.heap.size w w3 := ((B2.alloc (by have := B2.size; omega) (.cells #[.int .i64 r.w, .int .u64 r.lo, .int .u64 r.hi] 24)).alloc (by rw [size_alloc']; have := B2.size; omega) (.cells #[.int .i64 b.w, .int .u64 b.lo, .int .u64 b.hi, .int .i64 a.w, .int .u64 a.lo, .int .u64 a.hi] 24)).trans (hb.mono (by rw [size_alloc', size_alloc']; have := B2.size; omega))
  have fa3 : Hid (w3.heap[w.heap.size]? = some (.cells #[.int .i64 a.w, .int .u64 a.lo, .int .u64 a.hi] 24)) := (hb.block _ (by rw [size_alloc', size_alloc']; omega)).trans ((heap_alloc_old _ (.cells #[.int .i64 b.w, .int .u64 b.lo, .int .u64 b.hi, .int .i64 a.w, .int .u64 a.lo, .int .u64 a.hi] 24) (by rw [size_alloc']; omega)).trans ((heap_alloc_old _ (.cells #[.int .i64 r.w, .int .u64 r.lo, .int .u64 r.hi] 24) (by omega)).trans (fa2.out)))
  have fb3 : Hid (w3.heap[w.heap.size + 1]? = some (.cells #[.int .i64 b.w, .int .u64 b.lo, .int .u64 b.hi] 24)) := (hb.block _ (by rw [size_alloc', size_alloc']; omega)).trans ((heap_alloc_old _ (.cells #[.int .i64 b.w, .int .u64 b.lo, .int .u64 b.hi, .int .i64 a.w, .int .u64 a.lo, .int .u64 a.hi] 24) (by rw [size_alloc']; omega)).trans ((heap_alloc_old _ (.cells #[.int .i64 r.w, .int .u64 r.lo, .int .u64 r.hi] 24) (by omega)).trans (fb2.out)))
  have fc3 : Hid (w3.heap[w.heap.size + 2]? = some (.cells #[.int .i64 c.w, .int .u64 c.lo, .int .u64 c.hi] 24)) := (hb.block _ (by rw [size_alloc', size_alloc']; omega)).trans ((heap_alloc_old _ (.cells #[.int .i64 b.w, .int .u64 b.lo, .int .u64 b.hi, .int .i64 a.w, .int .u64 a.lo, .int .u64 a.hi] 24) (by rw [size_alloc']; omega)).trans ((heap_alloc_old _ (.cells #[.int .i64 r.w, .int .u64 r.lo, .int .u64 r.hi] 24) (by omega)).trans (fc2.out)))
  have fx3 : Hid (w3.heap[w2.heap.size]? = some (.cells #[.int .i64 r.w, .int .u64 r.lo, .int .u64 r.hi] 24)) := (hb.block _ (by rw [size_alloc', size_alloc']; omega)).trans ((heap_alloc_old _ (.cells #[.int .i64 b.w, .int .u64 b.lo, .int .u64 b.hi, .int .i64 a.w, .int .u64 a.lo, .int .u64 a.hi] 24) (by rw [size_alloc']; omega)).trans (heap_alloc_new w2 (.cells #[.int .i64 r.w, .int .u64 r.lo, .int .u64 r.hi] 24)))
  clear hb
  have hee : (er != er) = false := by simp
  have a30 : w3.cell? ⟨w.heap.size, 0, none⟩ = some (.int .i64 a.w) := cell_of fa3.out 0 rfl
  have a31 : w3.cell? ⟨w.heap.size, 1, none⟩ = some (.int .u64 a.lo) := cell_of fa3.out 1 rfl
  have a32 : w3.cell? ⟨w.heap.size, 2, none⟩ = some (.int .u64 a.hi) := cell_of fa3.out 2 rfl
  have la3 : w.heap.size < w3.heap.size := by omega
  have b30 : w3.cell? ⟨w.heap.size + 1, 0, none⟩ = some (.int .i64 b.w) := cell_of fb3.out 0 rfl
  have b31 : w3.cell? ⟨w.heap.size + 1, 1, none⟩ = some (.int .u64 b.lo) := cell_of fb3.out 1 rfl
  have b32 : w3.cell? ⟨w.heap.size + 1, 2, none⟩ = some (.int .u64 b.hi) := cell_of fb3.out 2 rfl
  have lb3 : w.heap.size + 1 < w3.heap.size := by omega
  have c30 : w3.cell? ⟨w.heap.size + 2, 0, none⟩ = some (.int .i64 c.w) := cell_of fc3.out 0 rfl
  have c31 : w3.cell? ⟨w.heap.size + 2, 1, none⟩ = some (.int .u64 c.lo) := cell_of fc3.out 1 rfl
  have c32 : w3.cell? ⟨w.heap.size + 2, 2, none⟩ = some (.int .u64 c.hi) := cell_of fc3.out 2 rfl
  have lc3 : w.heap.size + 2 < w3.heap.size := by omega
  have x30 : w3.cell? ⟨w2.heap.size, 0, none⟩ = some (.int .i64 r.w) := cell_of fx3.out 0 rfl
  have x31 : w3.cell? ⟨w2.heap.size, 1, none⟩ = some (.int .u64 r.lo) := cell_of fx3.out 1 rfl
  have x32 : w3.cell? ⟨w2.heap.size, 2, none⟩ = some (.int .u64 r.hi) := cell_of fx3.out 2 rfl
  have lx3 : w2.heap.size < w3.heap.size := by omega
  go_wp2_with fail
  clear a30 a31 a32 b30 b31 b32 c30 c31 c32 x30 x31 x32 la3 lb3 lc3 lx3
  clear hee
  refine (HI.out _ _ 3 (by
    have hc := heap_alloc_new (w3.alloc (.cells #[.int .i64 r.w, .int .u64 r.lo, .int .u64 r.hi] 24)) (.cells #[.int .i64 c.w, .int .u64 c.lo, .int .u64 c.hi, .int .i64 a.w, .int .u64 a.lo, .int .u64 a.hi, .int .i64 b.w, .int .u64 b.lo, .int .u64 b.hi] 24)
    rw [size_alloc'] at hc
    exact lb_of3 hc) (by simp)).mono ?_
  rintro e w4 ⟨rfl, hb⟩
  have s4 : w3.heap.size + 2 ≤ w4.heap.size := by have := hb.size; rw [size_alloc', size_alloc'] at this; exact this
  have B4 : Below w.heap.size w w4 := ((B3.alloc (by have := B3.size; omega) (.cells #[.int .i64 r.w, .int .u64 r.lo, .int .u64 r.hi] 24)).alloc (by rw [size_alloc']; have := B3.size; omega) (.cells #[.int .i64 c.w, .int .u64 c.lo, .int .u64 c.hi, .int .i64 a.w, .int .u64 a.lo, .int .u64 a.hi, .int .i64 b.w, .int .u64 b.lo, .int .u64 b.hi] 24)).trans (hb.mono (by rw [size_alloc', size_alloc']; have := B3.size; omega))
  have fa4 : Hid (w4.heap[w.heap.size]? = some (.cells #[.int .i64 a.w, .int .u64 a.lo, .int .u64 a.hi] 24)) := (hb.block _ (by rw [size_alloc', size_alloc']; omega)).trans ((heap_alloc_old _ (.cells #[.int .i64 c.w, .int .u64 c.lo, .int .u64 c.hi, .int .i64 a.w, .int .u64 a.lo, .int .u64 a.hi, .int .i64 b.w, .int .u64 b.lo, .int .u64 b.hi] 24) (by rw [size_alloc']; omega)).trans ((heap_alloc_old _ (.cells #[.int .i64 r.w, .int .u64 r.lo, .int .u64 r.hi] 24) (by omega)).trans (fa3.out)))
  have fb4 : Hid (w4.heap[w.heap.size + 1]? = some (.cells #[.int .i64 b.w, .int .u64 b.lo, .int .u64 b.hi] 24)) := (hb.block _ (by rw [size_alloc', size_alloc']; omega)).trans ((heap_alloc_old _ (.cells #[.int .i64 c.w, .int .u64 c.lo, .int .u64 c.hi, .int .i64 a.w, .int .u64 a.lo, .int .u64 a.hi, .int .i64 b.w, .int .u64 b.lo, .int .u64 b.hi] 24) (by rw [size_alloc']; omega)).trans ((heap_alloc_old _ (.cells #[.int .i64 r.w, .int .u64 r.lo, .int .u64 r.hi] 24) (by omega)).trans (fb3.out)))
  have fc4 : Hid (w4.heap[w.heap.size + 2]? = some (.cells #[.int .i64 c.w, .int .u64 c.lo, .int .u64 c.hi] 24)) := (hb.block _ (by rw [size_alloc', size_alloc']; omega)).trans ((heap_alloc_old _ (.cells #[.int .i64 c.w, .int .u64 c.lo, .int .u64 c.hi, .int .i64 a.w, .int .u64 a.lo, .int .u64 a.hi, .int .i64 b.w, .int .u64 b.lo, .int .u64 b.hi] 24) (by rw [size_alloc']; omega)).trans ((heap_alloc_old _ (.cells #[.int .i64 r.w, .int .u64 r.lo, .int .u64 r.hi] 24) (by omega)).trans (fc3.out)))
  clear hb
  have a40 : w4.cell? ⟨w.heap.size, 0, none⟩ = some (.int .i64 a.w) := cell_of fa4.out 0 rfl
  have a41 : w4.cell? ⟨w.heap.size, 1, none⟩ = some (.int .u64 a.lo) := cell_of fa4.out 1 rfl
  have a42 : w4.cell? ⟨w.heap.size, 2, none⟩ = some (.int .u64 a.hi) := cell_of fa4.out 2 rfl
  have la4 : w.heap.size < w4.heap.size := by omega
  have b40 : w4.cell? ⟨w.heap.size + 1, 0, none⟩ = some (.int .i64 b.w) := cell_of fb4.out 0 rfl
  have b41 : w4.cell? ⟨w.heap.size + 1, 1, none⟩ = some (.int .u64 b.lo) := cell_of fb4.out 1 rfl
  have b42 : w4.cell? ⟨w.heap.size + 1, 2, none⟩ = some (.int .u64 b.hi) := cell_of fb4.out 2 rfl
  have lb4 : w.heap.size + 1 < w4.heap.size := by omega
  have c40 : w4.cell? ⟨w.heap.size + 2, 0, none⟩ = some (.int .i64 c.w) := cell_of fc4.out 0 rfl
  have c41 : w4.cell? ⟨w.heap.size + 2, 1, none⟩ = some (.int .u64 c.lo) := cell_of fc4.out 1 rfl
  have c42 : w4.cell? ⟨w.heap.size + 2, 2, none⟩ = some (.int .u64 c.hi) := cell_of fc4.out 2 rfl
  have lc4 : w.heap.size + 2 < w4.heap.size := by omega
  rcases hm2 with rfl | rfl
  · go_wp2_with fail
    clear a40 a41 a42 b40 b41 b42 c40 c41 c42 la4 lb4 lc4
    refine (HJ.out _ _ 3 (by
      have hc := heap_alloc_new (w4.alloc (.cells #[.int .i64 r1.w, .int .u64 r1.lo, .int .u64 r1.hi] 24)) (.cells #[.int .i64 0, .int .u64 1, .int .u64 0, .int .i64 b.w, .int .u64 b.lo, .int .u64 b.hi, .int .i64 a.w, .int .u64 a.lo, .int .u64 a.hi] 24)
      rw [size_alloc'] at hc
      exact lb_of3 hc) (by simp)).mono ?_
    rintro e w5 ⟨rfl, hb⟩
    have s5 : w4.heap.size + 2 ≤ w5.heap.size := by have := hb.size; rw [size_alloc', size_alloc'] at this; exact this
    have B5 : Below w.heap.size w w5 := ((B4.alloc (by have := B4.size; omega) (.cells #[.int .i64 r1.w, .int .u64 r1.lo, .int .u64 r1.hi] 24)).alloc (by rw [size_alloc']; have := B4.size; omega) (.cells #[.int .i64 0, .int .u64 1, .int .u64 0, .int .i64 b.w, .int .u64 b.lo, .int .u64 b.hi, .int .i64 a.w, .int .u64 a.lo, .int .u64 a.hi] 24)).trans (hb.mono (by rw [size_alloc', size_alloc']; have := B4.size; omega))
    have fa5 : Hid (w5.heap[w.heap.size]? = some (.cells #[.int .i64 a.w, .int .u64 a.lo, .int .u64 a.hi] 24)) := (hb.block _ (by rw [size_alloc', size_alloc']; omega)).trans ((heap_alloc_old _ (.cells #[.int .i64 0, .int .u64 1, .int .u64 0, .int .i64 b.w, .int .u64 b.lo, .int .u64 b.hi, .int .i64 a.w, .int .u64 a.lo, .int .u64 a.hi] 24) (by rw [size_alloc']; omega)).trans ((heap_alloc_old _ (.cells #[.int .i64 r1.w, .int .u64 r1.lo, .int .u64 r1.hi] 24) (by omega)).trans (fa4.out)))
    have fb5 : Hid (w5.heap[w.heap.size + 1]? = some (.cells #[.int .i64 b.w, .int .u64 b.lo, .int .u64 b.hi] 24)) := (hb.block _ (by rw [size_alloc', size_alloc']; omega)).trans ((heap_alloc_old _ (.cells #[.int .i64 0, .int .u64 1, .int .u64 0, .int .i64 b.w, .int .u64 b.lo, .int .u64 b.hi, .int .i64 a.w, .int .u64 a.lo, .int .u64 a.hi] 24) (by rw [size_alloc']; omega)).trans ((heap_alloc_old _ (.cells #[.int .i64 r1.w, .int .u64 r1.lo, .int .u64 r1.hi] 24) (by omega)).trans (fb4.out)))
    have fc5 : Hid (w5.heap[w.heap.size + 2]? = some (.cells #[.int .i64 c.w, .int .u64 c.lo, .int .u64 c.hi] 24)) := (hb.block _ (by rw [size_alloc', size_alloc']; omega)).trans ((heap_alloc_old _ (.cells #[.int .i64 0, .int .u64 1, .int .u64 0, .int .i64 b.w, .int .u64 b.lo, .int .u64 b.hi, .int .i64 a.w, .int .u64 a.lo, .int .u64 a.hi] 24) (by rw [size_alloc']; omega)).trans ((heap_alloc_old _ (.cells #[.int .i64 r1.w, .int .u64 r1.lo, .int .u64 r1.hi] 24) (by omega)).trans (fc4.out)))
    have fd5 : Hid (w5.heap[w4.heap.size]? = some (.cells #[.int .i64 r1.w, .int .u64 r1.lo, .int .u64 r1.hi] 24)) := (hb.block _ (by rw [size_alloc', size_alloc']; omega)).trans ((heap_alloc_old _ (.cells #[.int .i64 0, .int .u64 1, .int .u64 0, .int .i64 b.w, .int .u64 b.lo, .int .u64 b.hi, .int .i64 a.w, .int .u64 a.lo, .int .u64 a.hi] 24) (by rw [size_alloc']; omega)).trans (heap_alloc_new w4 (.cells #[.int .i64 r1.w, .int .u64 r1.lo, .int .u64 r1.hi] 24)))
    clear hb
    rcases HE.out with ⟨rfl, rfl, h3, h4⟩ | rfl
    · subst h3
      rcases h4 with ⟨h5, rfl⟩ | ⟨h5, rfl⟩
      · have hc1 : (c.lo == 1) = true := by rw [h5]; rfl
        have hc0 : (c.lo == 0) = false := by rw [h5]; rfl
        have a50 : w5.cell? ⟨w.heap.size, 0, none⟩ = some (.int .i64 r1.w) := cell_of fa5.out 0 rfl
        have a51 : w5.cell? ⟨w.heap.size, 1, none⟩ = some (.int .u64 r1.lo) := cell_of fa5.out 1 rfl
        have a52 : w5.cell? ⟨w.heap.size, 2, none⟩ = some (.int .u64 r1.hi) := cell_of fa5.out 2 rfl
        have la5 : w.heap.size < w5.heap.size := by omega
        have b50 : w5.cell? ⟨w.heap.size + 1, 0, none⟩ = some (.int .i64 b.w) := cell_of fb5.out 0 rfl
        have b51 : w5.cell? ⟨w.heap.size + 1, 1, none⟩ = some (.int .u64 b.lo) := cell_of fb5.out 1 rfl
        have b52 : w5.cell? ⟨w.heap.size + 1, 2, none⟩ = some (.int .u64 b.hi) := cell_of fb5.out 2 rfl
        have lb5 : w.heap.size + 1 < w5.heap.size := by omega
        have c50 : w5.cell? ⟨w.heap.size + 2, 0, none⟩ = some (.int .i64 c.w) := cell_of fc5.out 0 rfl
        have c51 : w5.cell? ⟨w.heap.size + 2, 1, none⟩ = some (.int .u64 c.lo) := cell_of fc5.out 1 rfl
        have c52 : w5.cell? ⟨w.heap.size + 2, 2, none⟩ = some (.int .u64 c.hi) := cell_of fc5.out 2 rfl
        have lc5 : w.heap.size + 2 < w5.heap.size := by omega
        have d50 : w5.cell? ⟨w4.heap.size, 0, none⟩ = some (.int .i64 r1.w) := cell_of fd5.out 0 rfl
        have d51 : w5.cell? ⟨w4.heap.size, 1, none⟩ = some (.int .u64 r1.lo) := cell_of fd5.out 1 rfl
        have d52 : w5.cell? ⟨w4.heap.size, 2, none⟩ = some (.int .u64 r1.hi) := cell_of fd5.out 2 rfl
        have ld5 : w4.heap.size < w5.heap.size := by omega
        go_wp2_with fail
        go_ret
        exact ⟨rfl, by go_grown⟩
      · have hc1 : (c.lo == 1) = false := by rw [h5]; rfl
        have hc0 : (c.lo == 0) = true := by rw [h5]; rfl
        have a50 : w5.cell? ⟨w.heap.size, 0, none⟩ = some (.int .i64 a.w) := cell_of fa5.out 0 rfl
        have a51 : w5.cell? ⟨w.heap.size, 1, none⟩ = some (.int .u64 a.lo) := cell_of fa5.out 1 rfl
        have a52 : w5.cell? ⟨w.heap.size, 2, none⟩ = some (.int .u64 a.hi) := cell_of fa5.out 2 rfl
        have la5 : w.heap.size < w5.heap.size := by omega
        have b50 : w5.cell? ⟨w.heap.size + 1, 0, none⟩ = some (.int .i64 r1.w) := cell_of fb5.out 0 rfl
        have b51 : w5.cell? ⟨w.heap.size + 1, 1, none⟩ = some (.int .u64 r1.lo) := cell_of fb5.out 1 rfl
        have b52 : w5.cell? ⟨w.heap.size + 1, 2, none⟩ = some (.int .u64 r1.hi) := cell_of fb5.out 2 rfl
        have lb5 : w.heap.size + 1 < w5.heap.size := by omega
        have c50 : w5.cell? ⟨w.heap.size + 2, 0, none⟩ = some (.int .i64 c.w) := cell_of fc5.out 0 rfl
        have c51 : w5.cell? ⟨w.heap.size + 2, 1, none⟩ = some (.int .u64 c.lo) := cell_of fc5.out 1 rfl
        have c52 : w5.cell? ⟨w.heap.size + 2, 2, none⟩ = some (.int .u64 c.hi) := cell_of fc5.out 2 rfl
        have lc5 : w.heap.size + 2 < w5.heap.size := by omega
        have d50 : w5.cell? ⟨w4.heap.size, 0, none⟩ = some (.int .i64 r1.w) := cell_of fd5.out 0 rfl
        have d51 : w5.cell? ⟨w4.heap.size, 1, none⟩ = some (.int .u64 r1.lo) := cell_of fd5.out 1 rfl
        have d52 : w5.cell? ⟨w4.heap.size, 2, none⟩ = some (.int .u64 r1.hi) := cell_of fd5.out 2 rfl
        have ld5 : w4.heap.size < w5.heap.size := by omega
        go_wp2_with fail
        go_ret
        exact ⟨rfl, by go_grown⟩
    · go_wp2_with fail
      go_ret
      exact ⟨rfl, by go_grown⟩
  · go_wp2_with fail
    clear a40 a41 a42 b40 b41 b42 c40 c41 c42 la4 lb4 lc4
    refine (HJ.out _ _ 3 (by
      have hc := heap_alloc_new (w4.alloc (.cells #[.int .i64 r1.w, .int .u64 r1.lo, .int .u64 r1.hi] 24)) (.cells #[.int .i64 0, .int .u64 0, .int .u64 0, .int .i64 b.w, .int .u64 b.lo, .int .u64 b.hi, .int .i64 a.w, .int .u64 a.lo, .int .u64 a.hi] 24)
      rw [size_alloc'] at hc
      exact lb_of3 hc) (by simp)).mono ?_
    rintro e w5 ⟨rfl, hb⟩
    have s5 : w4.heap.size + 2 ≤ w5.heap.size := by have := hb.size; rw [size_alloc', size_alloc'] at this; exact this
    have B5 : Below w.heap.size w w5 := ((B4.alloc (by have := B4.size; omega) (.cells #[.int .i64 r1.w, .int .u64 r1.lo, .int .u64 r1.hi] 24)).alloc (by rw [size_alloc']; have := B4.size; omega) (.cells #[.int .i64 0, .int .u64 0, .int .u64 0, .int .i64 b.w, .int .u64 b.lo, .int .u64 b.hi, .int .i64 a.w, .int .u64 a.lo, .int .u64 a.hi] 24)).trans (hb.mono (by rw [size_alloc', size_alloc']; have := B4.size; omega))
    have fa5 : Hid (w5.heap[w.heap.size]? = some (.cells #[.int .i64 a.w, .int .u64 a.lo, .int .u64 a.hi] 24)) := (hb.block _ (by rw [size_alloc', size_alloc']; omega)).trans ((heap_alloc_old _ (.cells #[.int .i64 0, .int .u64 0, .int .u64 0, .int .i64 b.w, .int .u64 b.lo, .int .u64 b.hi, .int .i64 a.w, .int .u64 a.lo, .int .u64 a.hi] 24) (by rw [size_alloc']; omega)).trans ((heap_alloc_old _ (.cells #[.int .i64 r1.w, .int .u64 r1.lo, .int .u64 r1.hi] 24) (by omega)).trans (fa4.out)))
    have fb5 : Hid (w5.heap[w.heap.size + 1]? = some (.cells #[.int .i64 b.w, .int .u64 b.lo, .int .u64 b.hi] 24)) := (hb.block _ (by rw [size_alloc', size_alloc']; omega)).trans ((heap_alloc_old _ (.cells #[.int .i64 0, .int .u64 0, .int .u64 0, .int .i64 b.w, .int .u64 b.lo, .int .u64 b.hi, .int .i64 a.w, .int .u64 a.lo, .int .u64 a.hi] 24) (by rw [size_alloc']; omega)).trans ((heap_alloc_old _ (.cells #[.int .i64 r1.w, .int .u64 r1.lo, .int .u64 r1.hi] 24) (by omega)).trans (fb4.out)))
    have fc5 : Hid (w5.heap[w.heap.size + 2]? = some (.cells #[.int .i64 c.w, .int .u64 c.lo, .int .u64 c.hi] 24)) := (hb.block _ (by rw [size_alloc', size_alloc']; omega)).trans ((heap_alloc_old _ (.cells #[.int .i64 0, .int .u64 0, .int .u64 0, .int .i64 b.w, .int .u64 b.lo, .int .u64 b.hi, .int .i64 a.w, .int .u64 a.lo, .int .u64 a.hi] 24) (by rw [size_alloc']; omega)).trans ((heap_alloc_old _ (.cells #[.int .i64 r1.w, .int .u64 r1.lo, .int .u64 r1.hi] 24) (by omega)).trans (fc4.out)))
    have fd5 : Hid (w5.heap[w4.heap.size]? = some (.cells #[.int .i64 r1.w, .int .u64 r1.lo, .int .u64 r1.hi] 24)) := (hb.block _ (by rw [size_alloc', size_alloc']; omega)).trans ((heap_alloc_old _ (.cells #[.int .i64 0, .int .u64 0, .int .u64 0, .int .i64 b.w, .int .u64 b.lo, .int .u64 b.hi, .int .i64 a.w, .int .u64 a.lo, .int .u64 a.hi] 24) (by rw [size_alloc']; omega)).trans (heap_alloc_new w4 (.cells #[.int .i64 r1.w, .int .u64 r1.lo, .int .u64 r1.hi] 24)))
    clear hb
    rcases HE.out with ⟨rfl, rfl, h3, h4⟩ | rfl
    · subst h3
      rcases h4 with ⟨h5, rfl⟩ | ⟨h5, rfl⟩
      · have hc1 : (c.lo == 1) = true := by rw [h5]; rfl
        have hc0 : (c.lo == 0) = false := by rw [h5]; rfl
        have a50 : w5.cell? ⟨w.heap.size, 0, none⟩ = some (.int .i64 r1.w) := cell_of fa5.out 0 rfl
        have a51 : w5.cell? ⟨w.heap.size, 1, none⟩ = some (.int .u64 r1.lo) := cell_of fa5.out 1 rfl
        have a52 : w5.cell? ⟨w.heap.size, 2, none⟩ = some (.int .u64 r1.hi) := cell_of fa5.out 2 rfl
        have la5 : w.heap.size < w5.heap.size := by omega
        have b50 : w5.cell? ⟨w.heap.size + 1, 0, none⟩ = some (.int .i64 b.w) := cell_of fb5.out 0 rfl
        have b51 : w5.cell? ⟨w.heap.size + 1, 1, none⟩ = some (.int .u64 b.lo) := cell_of fb5.out 1 rfl
        have b52 : w5.cell? ⟨w.heap.size + 1, 2, none⟩ = some (.int .u64 b.hi) := cell_of fb5.out 2 rfl
        have lb5 : w.heap.size + 1 < w5.heap.size := by omega
        have c50 : w5.cell? ⟨w.heap.size + 2, 0, none⟩ = some (.int .i64 c.w) := cell_of fc5.out 0 rfl
        have c51 : w5.cell? ⟨w.heap.size + 2, 1, none⟩ = some (.int .u64 c.lo) := cell_of fc5.out 1 rfl
        have c52 : w5.cell? ⟨w.heap.size + 2, 2, none⟩ = some (.int .u64 c.hi) := cell_of fc5.out 2 rfl
        have lc5 : w.heap.size + 2 < w5.heap.size := by omega
        have d50 : w5.cell? ⟨w4.heap.size, 0, none⟩ = some (.int .i64 r1.w) := cell_of fd5.out 0 rfl
        have d51 : w5.cell? ⟨w4.heap.size, 1, none⟩ = some (.int .u64 r1.lo) := cell_of fd5.out 1 rfl
        have d52 : w5.cell? ⟨w4.heap.size, 2, none⟩ = some (.int .u64 r1.hi) := cell_of fd5.out 2 rfl
        have ld5 : w4.heap.size < w5.heap.size := by omega
        go_wp2_with fail
        go_ret
        exact ⟨rfl, by go_grown⟩
      · have hc1 : (c.lo == 1) = false := by rw [h5]; rfl
        have hc0 : (c.lo == 0) = true := by rw [h5]; rfl
        have a50 : w5.cell? ⟨w.heap.size, 0, none⟩ = some (.int .i64 a.w) := cell_of fa5.out 0 rfl
        have a51 : w5.cell? ⟨w.heap.size, 1, none⟩ = some (.int .u64 a.lo) := cell_of fa5.out 1 rfl
        have a52 : w5.cell? ⟨w.heap.size, 2, none⟩ = some (.int .u64 a.hi) := cell_of fa5.out 2 rfl
        have la5 : w.heap.size < w5.heap.size := by omega
        have b50 : w5.cell? ⟨w.heap.size + 1, 0, none⟩ = some (.int .i64 r1.w) := cell_of fb5.out 0 rfl
        have b51 : w5.cell? ⟨w.heap.size + 1, 1, none⟩ = some (.int .u64 r1.lo) := cell_of fb5.out 1 rfl
        have b52 : w5.cell? ⟨w.heap.size + 1, 2, none⟩ = some (.int .u64 r1.hi) := cell_of fb5.out 2 rfl
        have lb5 : w.heap.size + 1 < w5.heap.size := by omega
        have c50 : w5.cell? ⟨w.heap.size + 2, 0, none⟩ = some (.int .i64 c.w) := cell_of fc5.out 0 rfl
        have c51 : w5.cell? ⟨w.heap.size + 2, 1, none⟩ = some (.int .u64 c.lo) := cell_of fc5.out 1 rfl
        have c52 : w5.cell? ⟨w.heap.size + 2, 2, none⟩ = some (.int .u64 c.hi) := cell_of fc5.out 2 rfl
        have lc5 : w.heap.size + 2 < w5.heap.size := by omega
        have d50 : w5.cell? ⟨w4.heap.size, 0, none⟩ = some (.int .i64 r1.w) := cell_of fd5.out 0 rfl
        have d51 : w5.cell? ⟨w4.heap.size, 1, none⟩ = some (.int .u64 r1.lo) := cell_of fd5.out 1 rfl
        have d52 : w5.cell? ⟨w4.heap.size, 2, none⟩ = some (.int .u64 r1.hi) := cell_of fd5.out 2 rfl
        have ld5 : w4.heap.size < w5.heap.size := by omega
        go_wp2_with fail
        go_ret
        exact ⟨rfl, by go_grown⟩
    · go_wp2_with fail
      go_ret
      exact ⟨rfl, by go_grown⟩

set_option maxRecDepth 20000 in
set_option maxHeartbeats 12800000 in
theorem turn_37 {a b c r r1 r2 : Bt} {er e1 e2 m : Int} (HT : Hid (Ap 37 [a, b] r er)) (HU : Hid (Ap 37 [b, a] r er)) (HI : Hid (Ap 9 [c, a, b] r1 e1)) (HJ : Hid (Ap 9 [⟨0, 1 - m, 0⟩, b, a] r2 e2)) (hm : bits .and .u64 c.lo 1 = m) (hm2 : m = 0 ∨ m = 1)
    (HE : Hid ((e1 = 0 ∧ e2 = 0 ∧ r1 = r2 ∧ ((c.lo = 1 ∧ r1 = a) ∨ (c.lo = 0 ∧ r1 = b))) ∨ e1 = 30)) (w : World) :
    Calls Try.prog 3 #[.int .i64 37, .agg #[.int .i64 a.w, .int .u64 a.lo, .int .u64 a.hi], .agg #[.int .i64 b.w, .int .u64 b.lo, .int .u64 b.hi], .agg #[.int .i64 c.w, .int .u64 c.lo, .int .u64 c.hi]] w fun e w' => e = .returned (.bool true) ∧ Below w.heap.size w w' := by
  have hqe := eqb
  have hqn := neb
  go_enter Try.func3, Try.ntmps3
  go_wp2_with fail
  refine (known4 _).mono ?_
  rintro e w1 ⟨rfl, hb⟩
  have s1 : w.heap.size + 3 ≤ w1.heap.size := by have := hb.size; rw [size_alloc', size_alloc', size_alloc'] at this; exact this
  have B1 : Below w.heap.size w w1 := ((((Below.refl w.heap.size w).alloc (Nat.le_refl _) (.cells #[.int .i64 a.w, .int .u64 a.lo, .int .u64 a.hi] 24)).alloc (by rw [size_alloc']; omega) (.cells #[.int .i64 b.w, .int .u64 b.lo, .int .u64 b.hi] 24)).alloc (by rw [size_alloc', size_alloc']; omega) (.cells #[.int .i64 c.w, .int .u64 c.lo, .int .u64 c.hi] 24)).trans (hb.mono (by rw [size_alloc', size_alloc', size_alloc']; omega))
  have fa1 : Hid (w1.heap[w.heap.size]? = some (.cells #[.int .i64 a.w, .int .u64 a.lo, .int .u64 a.hi] 24)) := (hb.block _ (by rw [size_alloc', size_alloc', size_alloc']; omega)).trans ((heap_alloc_old _ _ (by rw [size_alloc', size_alloc']; omega)).trans ((heap_alloc_old _ _ (by rw [size_alloc']; omega)).trans (heap_alloc_new w (.cells #[.int .i64 a.w, .int .u64 a.lo, .int .u64 a.hi] 24))))
  have fb1 : Hid (w1.heap[w.heap.size + 1]? = some (.cells #[.int .i64 b.w, .int .u64 b.lo, .int .u64 b.hi] 24)) := (hb.block _ (by rw [size_alloc', size_alloc', size_alloc']; omega)).trans ((heap_alloc_old _ _ (by rw [size_alloc', size_alloc']; omega)).trans (by have := heap_alloc_new (w.alloc (.cells #[.int .i64 a.w, .int .u64 a.lo, .int .u64 a.hi] 24)) (.cells #[.int .i64 b.w, .int .u64 b.lo, .int .u64 b.hi] 24); rw [size_alloc'] at this; exact this))
  have fc1 : Hid (w1.heap[w.heap.size + 2]? = some (.cells #[.int .i64 c.w, .int .u64 c.lo, .int .u64 c.hi] 24)) := (hb.block _ (by rw [size_alloc', size_alloc', size_alloc']; omega)).trans (by have := heap_alloc_new ((w.alloc (.cells #[.int .i64 a.w, .int .u64 a.lo, .int .u64 a.hi] 24)).alloc (.cells #[.int .i64 b.w, .int .u64 b.lo, .int .u64 b.hi] 24)) (.cells #[.int .i64 c.w, .int .u64 c.lo, .int .u64 c.hi] 24); rw [size_alloc', size_alloc'] at this; exact this)
  clear hb
  have a10 : w1.cell? ⟨w.heap.size, 0, none⟩ = some (.int .i64 a.w) := cell_of fa1.out 0 rfl
  have a11 : w1.cell? ⟨w.heap.size, 1, none⟩ = some (.int .u64 a.lo) := cell_of fa1.out 1 rfl
  have a12 : w1.cell? ⟨w.heap.size, 2, none⟩ = some (.int .u64 a.hi) := cell_of fa1.out 2 rfl
  have la1 : w.heap.size < w1.heap.size := by omega
  have b10 : w1.cell? ⟨w.heap.size + 1, 0, none⟩ = some (.int .i64 b.w) := cell_of fb1.out 0 rfl
  have b11 : w1.cell? ⟨w.heap.size + 1, 1, none⟩ = some (.int .u64 b.lo) := cell_of fb1.out 1 rfl
  have b12 : w1.cell? ⟨w.heap.size + 1, 2, none⟩ = some (.int .u64 b.hi) := cell_of fb1.out 2 rfl
  have lb1 : w.heap.size + 1 < w1.heap.size := by omega
  go_wp2_with fail
  clear a10 a11 a12 b10 b11 b12 la1 lb1
  refine (HT.out _ _ 2 (by
    have hc := heap_alloc_new (w1) (.cells #[.int .i64 a.w, .int .u64 a.lo, .int .u64 a.hi, .int .i64 b.w, .int .u64 b.lo, .int .u64 b.hi] 24)
    exact lb_of2 hc) (by simp)).mono ?_
  rintro e w2 ⟨rfl, hb⟩
  have s2 : w1.heap.size + 1 ≤ w2.heap.size := by have := hb.size; rw [size_alloc'] at this; exact this
  have B2 : Below w.heap.size w w2 := (B1.alloc (by have := B1.size; omega) (.cells #[.int .i64 a.w, .int .u64 a.lo, .int .u64 a.hi, .int .i64 b.w, .int .u64 b.lo, .int .u64 b.hi] 24)).trans (hb.mono (by rw [size_alloc']; have := B1.size; omega))
  have fa2 : Hid (w2.heap[w.heap.size]? = some (.cells #[.int .i64 a.w, .int .u64 a.lo, .int .u64 a.hi] 24)) := (hb.block _ (by rw [size_alloc']; omega)).trans ((heap_alloc_old _ (.cells #[.int .i64 a.w, .int .u64 a.lo, .int .u64 a.hi, .int .i64 b.w, .int .u64 b.lo, .int .u64 b.hi] 24) (by omega)).trans (fa1.out))
  have fb2 : Hid (w2.heap[w.heap.size + 1]? = some (.cells #[.int .i64 b.w, .int .u64 b.lo, .int .u64 b.hi] 24)) := (hb.block _ (by rw [size_alloc']; omega)).trans ((heap_alloc_old _ (.cells #[.int .i64 a.w, .int .u64 a.lo, .int .u64 a.hi, .int .i64 b.w, .int .u64 b.lo, .int .u64 b.hi] 24) (by omega)).trans (fb1.out))
  have fc2 : Hid (w2.heap[w.heap.size + 2]? = some (.cells #[.int .i64 c.w, .int .u64 c.lo, .int .u64 c.hi] 24)) := (hb.block _ (by rw [size_alloc']; omega)).trans ((heap_alloc_old _ (.cells #[.int .i64 a.w, .int .u64 a.lo, .int .u64 a.hi, .int .i64 b.w, .int .u64 b.lo, .int .u64 b.hi] 24) (by omega)).trans (fc1.out))
  clear hb
  have a20 : w2.cell? ⟨w.heap.size, 0, none⟩ = some (.int .i64 a.w) := cell_of fa2.out 0 rfl
  have a21 : w2.cell? ⟨w.heap.size, 1, none⟩ = some (.int .u64 a.lo) := cell_of fa2.out 1 rfl
  have a22 : w2.cell? ⟨w.heap.size, 2, none⟩ = some (.int .u64 a.hi) := cell_of fa2.out 2 rfl
  have la2 : w.heap.size < w2.heap.size := by omega
  have b20 : w2.cell? ⟨w.heap.size + 1, 0, none⟩ = some (.int .i64 b.w) := cell_of fb2.out 0 rfl
  have b21 : w2.cell? ⟨w.heap.size + 1, 1, none⟩ = some (.int .u64 b.lo) := cell_of fb2.out 1 rfl
  have b22 : w2.cell? ⟨w.heap.size + 1, 2, none⟩ = some (.int .u64 b.hi) := cell_of fb2.out 2 rfl
  have lb2 : w.heap.size + 1 < w2.heap.size := by omega
  go_wp2_with fail
  clear a20 a21 a22 b20 b21 b22 la2 lb2
  refine (HU.out _ _ 2 (by
    have hc := heap_alloc_new (w2.alloc (.cells #[.int .i64 r.w, .int .u64 r.lo, .int .u64 r.hi] 24)) (.cells #[.int .i64 b.w, .int .u64 b.lo, .int .u64 b.hi, .int .i64 a.w, .int .u64 a.lo, .int .u64 a.hi] 24)
    rw [size_alloc'] at hc
    exact lb_of2 hc) (by simp)).mono ?_
  rintro e w3 ⟨rfl, hb⟩
  have s3 : w2.heap.size + 2 ≤ w3.heap.size := by have := hb.size; rw [size_alloc', size_alloc'] at this; exact this
  have B3 : Below w.heap.size w w3 := ((B2.alloc (by have := B2.size; omega) (.cells #[.int .i64 r.w, .int .u64 r.lo, .int .u64 r.hi] 24)).alloc (by rw [size_alloc']; have := B2.size; omega) (.cells #[.int .i64 b.w, .int .u64 b.lo, .int .u64 b.hi, .int .i64 a.w, .int .u64 a.lo, .int .u64 a.hi] 24)).trans (hb.mono (by rw [size_alloc', size_alloc']; have := B2.size; omega))
  have fa3 : Hid (w3.heap[w.heap.size]? = some (.cells #[.int .i64 a.w, .int .u64 a.lo, .int .u64 a.hi] 24)) := (hb.block _ (by rw [size_alloc', size_alloc']; omega)).trans ((heap_alloc_old _ (.cells #[.int .i64 b.w, .int .u64 b.lo, .int .u64 b.hi, .int .i64 a.w, .int .u64 a.lo, .int .u64 a.hi] 24) (by rw [size_alloc']; omega)).trans ((heap_alloc_old _ (.cells #[.int .i64 r.w, .int .u64 r.lo, .int .u64 r.hi] 24) (by omega)).trans (fa2.out)))
  have fb3 : Hid (w3.heap[w.heap.size + 1]? = some (.cells #[.int .i64 b.w, .int .u64 b.lo, .int .u64 b.hi] 24)) := (hb.block _ (by rw [size_alloc', size_alloc']; omega)).trans ((heap_alloc_old _ (.cells #[.int .i64 b.w, .int .u64 b.lo, .int .u64 b.hi, .int .i64 a.w, .int .u64 a.lo, .int .u64 a.hi] 24) (by rw [size_alloc']; omega)).trans ((heap_alloc_old _ (.cells #[.int .i64 r.w, .int .u64 r.lo, .int .u64 r.hi] 24) (by omega)).trans (fb2.out)))
  have fc3 : Hid (w3.heap[w.heap.size + 2]? = some (.cells #[.int .i64 c.w, .int .u64 c.lo, .int .u64 c.hi] 24)) := (hb.block _ (by rw [size_alloc', size_alloc']; omega)).trans ((heap_alloc_old _ (.cells #[.int .i64 b.w, .int .u64 b.lo, .int .u64 b.hi, .int .i64 a.w, .int .u64 a.lo, .int .u64 a.hi] 24) (by rw [size_alloc']; omega)).trans ((heap_alloc_old _ (.cells #[.int .i64 r.w, .int .u64 r.lo, .int .u64 r.hi] 24) (by omega)).trans (fc2.out)))
  have fx3 : Hid (w3.heap[w2.heap.size]? = some (.cells #[.int .i64 r.w, .int .u64 r.lo, .int .u64 r.hi] 24)) := (hb.block _ (by rw [size_alloc', size_alloc']; omega)).trans ((heap_alloc_old _ (.cells #[.int .i64 b.w, .int .u64 b.lo, .int .u64 b.hi, .int .i64 a.w, .int .u64 a.lo, .int .u64 a.hi] 24) (by rw [size_alloc']; omega)).trans (heap_alloc_new w2 (.cells #[.int .i64 r.w, .int .u64 r.lo, .int .u64 r.hi] 24)))
  clear hb
  have hee : (er != er) = false := by simp
  have a30 : w3.cell? ⟨w.heap.size, 0, none⟩ = some (.int .i64 a.w) := cell_of fa3.out 0 rfl
  have a31 : w3.cell? ⟨w.heap.size, 1, none⟩ = some (.int .u64 a.lo) := cell_of fa3.out 1 rfl
  have a32 : w3.cell? ⟨w.heap.size, 2, none⟩ = some (.int .u64 a.hi) := cell_of fa3.out 2 rfl
  have la3 : w.heap.size < w3.heap.size := by omega
  have b30 : w3.cell? ⟨w.heap.size + 1, 0, none⟩ = some (.int .i64 b.w) := cell_of fb3.out 0 rfl
  have b31 : w3.cell? ⟨w.heap.size + 1, 1, none⟩ = some (.int .u64 b.lo) := cell_of fb3.out 1 rfl
  have b32 : w3.cell? ⟨w.heap.size + 1, 2, none⟩ = some (.int .u64 b.hi) := cell_of fb3.out 2 rfl
  have lb3 : w.heap.size + 1 < w3.heap.size := by omega
  have c30 : w3.cell? ⟨w.heap.size + 2, 0, none⟩ = some (.int .i64 c.w) := cell_of fc3.out 0 rfl
  have c31 : w3.cell? ⟨w.heap.size + 2, 1, none⟩ = some (.int .u64 c.lo) := cell_of fc3.out 1 rfl
  have c32 : w3.cell? ⟨w.heap.size + 2, 2, none⟩ = some (.int .u64 c.hi) := cell_of fc3.out 2 rfl
  have lc3 : w.heap.size + 2 < w3.heap.size := by omega
  have x30 : w3.cell? ⟨w2.heap.size, 0, none⟩ = some (.int .i64 r.w) := cell_of fx3.out 0 rfl
  have x31 : w3.cell? ⟨w2.heap.size, 1, none⟩ = some (.int .u64 r.lo) := cell_of fx3.out 1 rfl
  have x32 : w3.cell? ⟨w2.heap.size, 2, none⟩ = some (.int .u64 r.hi) := cell_of fx3.out 2 rfl
  have lx3 : w2.heap.size < w3.heap.size := by omega
  go_wp2_with fail
  clear a30 a31 a32 b30 b31 b32 c30 c31 c32 x30 x31 x32 la3 lb3 lc3 lx3
  clear hee
  refine (HI.out _ _ 3 (by
    have hc := heap_alloc_new (w3.alloc (.cells #[.int .i64 r.w, .int .u64 r.lo, .int .u64 r.hi] 24)) (.cells #[.int .i64 c.w, .int .u64 c.lo, .int .u64 c.hi, .int .i64 a.w, .int .u64 a.lo, .int .u64 a.hi, .int .i64 b.w, .int .u64 b.lo, .int .u64 b.hi] 24)
    rw [size_alloc'] at hc
    exact lb_of3 hc) (by simp)).mono ?_
  rintro e w4 ⟨rfl, hb⟩
  have s4 : w3.heap.size + 2 ≤ w4.heap.size := by have := hb.size; rw [size_alloc', size_alloc'] at this; exact this
  have B4 : Below w.heap.size w w4 := ((B3.alloc (by have := B3.size; omega) (.cells #[.int .i64 r.w, .int .u64 r.lo, .int .u64 r.hi] 24)).alloc (by rw [size_alloc']; have := B3.size; omega) (.cells #[.int .i64 c.w, .int .u64 c.lo, .int .u64 c.hi, .int .i64 a.w, .int .u64 a.lo, .int .u64 a.hi, .int .i64 b.w, .int .u64 b.lo, .int .u64 b.hi] 24)).trans (hb.mono (by rw [size_alloc', size_alloc']; have := B3.size; omega))
  have fa4 : Hid (w4.heap[w.heap.size]? = some (.cells #[.int .i64 a.w, .int .u64 a.lo, .int .u64 a.hi] 24)) := (hb.block _ (by rw [size_alloc', size_alloc']; omega)).trans ((heap_alloc_old _ (.cells #[.int .i64 c.w, .int .u64 c.lo, .int .u64 c.hi, .int .i64 a.w, .int .u64 a.lo, .int .u64 a.hi, .int .i64 b.w, .int .u64 b.lo, .int .u64 b.hi] 24) (by rw [size_alloc']; omega)).trans ((heap_alloc_old _ (.cells #[.int .i64 r.w, .int .u64 r.lo, .int .u64 r.hi] 24) (by omega)).trans (fa3.out)))
  have fb4 : Hid (w4.heap[w.heap.size + 1]? = some (.cells #[.int .i64 b.w, .int .u64 b.lo, .int .u64 b.hi] 24)) := (hb.block _ (by rw [size_alloc', size_alloc']; omega)).trans ((heap_alloc_old _ (.cells #[.int .i64 c.w, .int .u64 c.lo, .int .u64 c.hi, .int .i64 a.w, .int .u64 a.lo, .int .u64 a.hi, .int .i64 b.w, .int .u64 b.lo, .int .u64 b.hi] 24) (by rw [size_alloc']; omega)).trans ((heap_alloc_old _ (.cells #[.int .i64 r.w, .int .u64 r.lo, .int .u64 r.hi] 24) (by omega)).trans (fb3.out)))
  have fc4 : Hid (w4.heap[w.heap.size + 2]? = some (.cells #[.int .i64 c.w, .int .u64 c.lo, .int .u64 c.hi] 24)) := (hb.block _ (by rw [size_alloc', size_alloc']; omega)).trans ((heap_alloc_old _ (.cells #[.int .i64 c.w, .int .u64 c.lo, .int .u64 c.hi, .int .i64 a.w, .int .u64 a.lo, .int .u64 a.hi, .int .i64 b.w, .int .u64 b.lo, .int .u64 b.hi] 24) (by rw [size_alloc']; omega)).trans ((heap_alloc_old _ (.cells #[.int .i64 r.w, .int .u64 r.lo, .int .u64 r.hi] 24) (by omega)).trans (fc3.out)))
  clear hb
  have a40 : w4.cell? ⟨w.heap.size, 0, none⟩ = some (.int .i64 a.w) := cell_of fa4.out 0 rfl
  have a41 : w4.cell? ⟨w.heap.size, 1, none⟩ = some (.int .u64 a.lo) := cell_of fa4.out 1 rfl
  have a42 : w4.cell? ⟨w.heap.size, 2, none⟩ = some (.int .u64 a.hi) := cell_of fa4.out 2 rfl
  have la4 : w.heap.size < w4.heap.size := by omega
  have b40 : w4.cell? ⟨w.heap.size + 1, 0, none⟩ = some (.int .i64 b.w) := cell_of fb4.out 0 rfl
  have b41 : w4.cell? ⟨w.heap.size + 1, 1, none⟩ = some (.int .u64 b.lo) := cell_of fb4.out 1 rfl
  have b42 : w4.cell? ⟨w.heap.size + 1, 2, none⟩ = some (.int .u64 b.hi) := cell_of fb4.out 2 rfl
  have lb4 : w.heap.size + 1 < w4.heap.size := by omega
  have c40 : w4.cell? ⟨w.heap.size + 2, 0, none⟩ = some (.int .i64 c.w) := cell_of fc4.out 0 rfl
  have c41 : w4.cell? ⟨w.heap.size + 2, 1, none⟩ = some (.int .u64 c.lo) := cell_of fc4.out 1 rfl
  have c42 : w4.cell? ⟨w.heap.size + 2, 2, none⟩ = some (.int .u64 c.hi) := cell_of fc4.out 2 rfl
  have lc4 : w.heap.size + 2 < w4.heap.size := by omega
  rcases hm2 with rfl | rfl
  · go_wp2_with fail
    clear a40 a41 a42 b40 b41 b42 c40 c41 c42 la4 lb4 lc4
    refine (HJ.out _ _ 3 (by
      have hc := heap_alloc_new (w4.alloc (.cells #[.int .i64 r1.w, .int .u64 r1.lo, .int .u64 r1.hi] 24)) (.cells #[.int .i64 0, .int .u64 1, .int .u64 0, .int .i64 b.w, .int .u64 b.lo, .int .u64 b.hi, .int .i64 a.w, .int .u64 a.lo, .int .u64 a.hi] 24)
      rw [size_alloc'] at hc
      exact lb_of3 hc) (by simp)).mono ?_
    rintro e w5 ⟨rfl, hb⟩
    have s5 : w4.heap.size + 2 ≤ w5.heap.size := by have := hb.size; rw [size_alloc', size_alloc'] at this; exact this
    have B5 : Below w.heap.size w w5 := ((B4.alloc (by have := B4.size; omega) (.cells #[.int .i64 r1.w, .int .u64 r1.lo, .int .u64 r1.hi] 24)).alloc (by rw [size_alloc']; have := B4.size; omega) (.cells #[.int .i64 0, .int .u64 1, .int .u64 0, .int .i64 b.w, .int .u64 b.lo, .int .u64 b.hi, .int .i64 a.w, .int .u64 a.lo, .int .u64 a.hi] 24)).trans (hb.mono (by rw [size_alloc', size_alloc']; have := B4.size; omega))
    have fa5 : Hid (w5.heap[w.heap.size]? = some (.cells #[.int .i64 a.w, .int .u64 a.lo, .int .u64 a.hi] 24)) := (hb.block _ (by rw [size_alloc', size_alloc']; omega)).trans ((heap_alloc_old _ (.cells #[.int .i64 0, .int .u64 1, .int .u64 0, .int .i64 b.w, .int .u64 b.lo, .int .u64 b.hi, .int .i64 a.w, .int .u64 a.lo, .int .u64 a.hi] 24) (by rw [size_alloc']; omega)).trans ((heap_alloc_old _ (.cells #[.int .i64 r1.w, .int .u64 r1.lo, .int .u64 r1.hi] 24) (by omega)).trans (fa4.out)))
    have fb5 : Hid (w5.heap[w.heap.size + 1]? = some (.cells #[.int .i64 b.w, .int .u64 b.lo, .int .u64 b.hi] 24)) := (hb.block _ (by rw [size_alloc', size_alloc']; omega)).trans ((heap_alloc_old _ (.cells #[.int .i64 0, .int .u64 1, .int .u64 0, .int .i64 b.w, .int .u64 b.lo, .int .u64 b.hi, .int .i64 a.w, .int .u64 a.lo, .int .u64 a.hi] 24) (by rw [size_alloc']; omega)).trans ((heap_alloc_old _ (.cells #[.int .i64 r1.w, .int .u64 r1.lo, .int .u64 r1.hi] 24) (by omega)).trans (fb4.out)))
    have fc5 : Hid (w5.heap[w.heap.size + 2]? = some (.cells #[.int .i64 c.w, .int .u64 c.lo, .int .u64 c.hi] 24)) := (hb.block _ (by rw [size_alloc', size_alloc']; omega)).trans ((heap_alloc_old _ (.cells #[.int .i64 0, .int .u64 1, .int .u64 0, .int .i64 b.w, .int .u64 b.lo, .int .u64 b.hi, .int .i64 a.w, .int .u64 a.lo, .int .u64 a.hi] 24) (by rw [size_alloc']; omega)).trans ((heap_alloc_old _ (.cells #[.int .i64 r1.w, .int .u64 r1.lo, .int .u64 r1.hi] 24) (by omega)).trans (fc4.out)))
    have fd5 : Hid (w5.heap[w4.heap.size]? = some (.cells #[.int .i64 r1.w, .int .u64 r1.lo, .int .u64 r1.hi] 24)) := (hb.block _ (by rw [size_alloc', size_alloc']; omega)).trans ((heap_alloc_old _ (.cells #[.int .i64 0, .int .u64 1, .int .u64 0, .int .i64 b.w, .int .u64 b.lo, .int .u64 b.hi, .int .i64 a.w, .int .u64 a.lo, .int .u64 a.hi] 24) (by rw [size_alloc']; omega)).trans (heap_alloc_new w4 (.cells #[.int .i64 r1.w, .int .u64 r1.lo, .int .u64 r1.hi] 24)))
    clear hb
    rcases HE.out with ⟨rfl, rfl, h3, h4⟩ | rfl
    · subst h3
      rcases h4 with ⟨h5, rfl⟩ | ⟨h5, rfl⟩
      · have hc1 : (c.lo == 1) = true := by rw [h5]; rfl
        have hc0 : (c.lo == 0) = false := by rw [h5]; rfl
        have a50 : w5.cell? ⟨w.heap.size, 0, none⟩ = some (.int .i64 r1.w) := cell_of fa5.out 0 rfl
        have a51 : w5.cell? ⟨w.heap.size, 1, none⟩ = some (.int .u64 r1.lo) := cell_of fa5.out 1 rfl
        have a52 : w5.cell? ⟨w.heap.size, 2, none⟩ = some (.int .u64 r1.hi) := cell_of fa5.out 2 rfl
        have la5 : w.heap.size < w5.heap.size := by omega
        have b50 : w5.cell? ⟨w.heap.size + 1, 0, none⟩ = some (.int .i64 b.w) := cell_of fb5.out 0 rfl
        have b51 : w5.cell? ⟨w.heap.size + 1, 1, none⟩ = some (.int .u64 b.lo) := cell_of fb5.out 1 rfl
        have b52 : w5.cell? ⟨w.heap.size + 1, 2, none⟩ = some (.int .u64 b.hi) := cell_of fb5.out 2 rfl
        have lb5 : w.heap.size + 1 < w5.heap.size := by omega
        have c50 : w5.cell? ⟨w.heap.size + 2, 0, none⟩ = some (.int .i64 c.w) := cell_of fc5.out 0 rfl
        have c51 : w5.cell? ⟨w.heap.size + 2, 1, none⟩ = some (.int .u64 c.lo) := cell_of fc5.out 1 rfl
        have c52 : w5.cell? ⟨w.heap.size + 2, 2, none⟩ = some (.int .u64 c.hi) := cell_of fc5.out 2 rfl
        have lc5 : w.heap.size + 2 < w5.heap.size := by omega
        have d50 : w5.cell? ⟨w4.heap.size, 0, none⟩ = some (.int .i64 r1.w) := cell_of fd5.out 0 rfl
        have d51 : w5.cell? ⟨w4.heap.size, 1, none⟩ = some (.int .u64 r1.lo) := cell_of fd5.out 1 rfl
        have d52 : w5.cell? ⟨w4.heap.size, 2, none⟩ = some (.int .u64 r1.hi) := cell_of fd5.out 2 rfl
        have ld5 : w4.heap.size < w5.heap.size := by omega
        go_wp2_with fail
        go_ret
        exact ⟨rfl, by go_grown⟩
      · have hc1 : (c.lo == 1) = false := by rw [h5]; rfl
        have hc0 : (c.lo == 0) = true := by rw [h5]; rfl
        have a50 : w5.cell? ⟨w.heap.size, 0, none⟩ = some (.int .i64 a.w) := cell_of fa5.out 0 rfl
        have a51 : w5.cell? ⟨w.heap.size, 1, none⟩ = some (.int .u64 a.lo) := cell_of fa5.out 1 rfl
        have a52 : w5.cell? ⟨w.heap.size, 2, none⟩ = some (.int .u64 a.hi) := cell_of fa5.out 2 rfl
        have la5 : w.heap.size < w5.heap.size := by omega
        have b50 : w5.cell? ⟨w.heap.size + 1, 0, none⟩ = some (.int .i64 r1.w) := cell_of fb5.out 0 rfl
        have b51 : w5.cell? ⟨w.heap.size + 1, 1, none⟩ = some (.int .u64 r1.lo) := cell_of fb5.out 1 rfl
        have b52 : w5.cell? ⟨w.heap.size + 1, 2, none⟩ = some (.int .u64 r1.hi) := cell_of fb5.out 2 rfl
        have lb5 : w.heap.size + 1 < w5.heap.size := by omega
        have c50 : w5.cell? ⟨w.heap.size + 2, 0, none⟩ = some (.int .i64 c.w) := cell_of fc5.out 0 rfl
        have c51 : w5.cell? ⟨w.heap.size + 2, 1, none⟩ = some (.int .u64 c.lo) := cell_of fc5.out 1 rfl
        have c52 : w5.cell? ⟨w.heap.size + 2, 2, none⟩ = some (.int .u64 c.hi) := cell_of fc5.out 2 rfl
        have lc5 : w.heap.size + 2 < w5.heap.size := by omega
        have d50 : w5.cell? ⟨w4.heap.size, 0, none⟩ = some (.int .i64 r1.w) := cell_of fd5.out 0 rfl
        have d51 : w5.cell? ⟨w4.heap.size, 1, none⟩ = some (.int .u64 r1.lo) := cell_of fd5.out 1 rfl
        have d52 : w5.cell? ⟨w4.heap.size, 2, none⟩ = some (.int .u64 r1.hi) := cell_of fd5.out 2 rfl
        have ld5 : w4.heap.size < w5.heap.size := by omega
        go_wp2_with fail
        go_ret
        exact ⟨rfl, by go_grown⟩
    · go_wp2_with fail
      go_ret
      exact ⟨rfl, by go_grown⟩
  · go_wp2_with fail
    clear a40 a41 a42 b40 b41 b42 c40 c41 c42 la4 lb4 lc4
    refine (HJ.out _ _ 3 (by
      have hc := heap_alloc_new (w4.alloc (.cells #[.int .i64 r1.w, .int .u64 r1.lo, .int .u64 r1.hi] 24)) (.cells #[.int .i64 0, .int .u64 0, .int .u64 0, .int .i64 b.w, .int .u64 b.lo, .int .u64 b.hi, .int .i64 a.w, .int .u64 a.lo, .int .u64 a.hi] 24)
      rw [size_alloc'] at hc
      exact lb_of3 hc) (by simp)).mono ?_
    rintro e w5 ⟨rfl, hb⟩
    have s5 : w4.heap.size + 2 ≤ w5.heap.size := by have := hb.size; rw [size_alloc', size_alloc'] at this; exact this
    have B5 : Below w.heap.size w w5 := ((B4.alloc (by have := B4.size; omega) (.cells #[.int .i64 r1.w, .int .u64 r1.lo, .int .u64 r1.hi] 24)).alloc (by rw [size_alloc']; have := B4.size; omega) (.cells #[.int .i64 0, .int .u64 0, .int .u64 0, .int .i64 b.w, .int .u64 b.lo, .int .u64 b.hi, .int .i64 a.w, .int .u64 a.lo, .int .u64 a.hi] 24)).trans (hb.mono (by rw [size_alloc', size_alloc']; have := B4.size; omega))
    have fa5 : Hid (w5.heap[w.heap.size]? = some (.cells #[.int .i64 a.w, .int .u64 a.lo, .int .u64 a.hi] 24)) := (hb.block _ (by rw [size_alloc', size_alloc']; omega)).trans ((heap_alloc_old _ (.cells #[.int .i64 0, .int .u64 0, .int .u64 0, .int .i64 b.w, .int .u64 b.lo, .int .u64 b.hi, .int .i64 a.w, .int .u64 a.lo, .int .u64 a.hi] 24) (by rw [size_alloc']; omega)).trans ((heap_alloc_old _ (.cells #[.int .i64 r1.w, .int .u64 r1.lo, .int .u64 r1.hi] 24) (by omega)).trans (fa4.out)))
    have fb5 : Hid (w5.heap[w.heap.size + 1]? = some (.cells #[.int .i64 b.w, .int .u64 b.lo, .int .u64 b.hi] 24)) := (hb.block _ (by rw [size_alloc', size_alloc']; omega)).trans ((heap_alloc_old _ (.cells #[.int .i64 0, .int .u64 0, .int .u64 0, .int .i64 b.w, .int .u64 b.lo, .int .u64 b.hi, .int .i64 a.w, .int .u64 a.lo, .int .u64 a.hi] 24) (by rw [size_alloc']; omega)).trans ((heap_alloc_old _ (.cells #[.int .i64 r1.w, .int .u64 r1.lo, .int .u64 r1.hi] 24) (by omega)).trans (fb4.out)))
    have fc5 : Hid (w5.heap[w.heap.size + 2]? = some (.cells #[.int .i64 c.w, .int .u64 c.lo, .int .u64 c.hi] 24)) := (hb.block _ (by rw [size_alloc', size_alloc']; omega)).trans ((heap_alloc_old _ (.cells #[.int .i64 0, .int .u64 0, .int .u64 0, .int .i64 b.w, .int .u64 b.lo, .int .u64 b.hi, .int .i64 a.w, .int .u64 a.lo, .int .u64 a.hi] 24) (by rw [size_alloc']; omega)).trans ((heap_alloc_old _ (.cells #[.int .i64 r1.w, .int .u64 r1.lo, .int .u64 r1.hi] 24) (by omega)).trans (fc4.out)))
    have fd5 : Hid (w5.heap[w4.heap.size]? = some (.cells #[.int .i64 r1.w, .int .u64 r1.lo, .int .u64 r1.hi] 24)) := (hb.block _ (by rw [size_alloc', size_alloc']; omega)).trans ((heap_alloc_old _ (.cells #[.int .i64 0, .int .u64 0, .int .u64 0, .int .i64 b.w, .int .u64 b.lo, .int .u64 b.hi, .int .i64 a.w, .int .u64 a.lo, .int .u64 a.hi] 24) (by rw [size_alloc']; omega)).trans (heap_alloc_new w4 (.cells #[.int .i64 r1.w, .int .u64 r1.lo, .int .u64 r1.hi] 24)))
    clear hb
    rcases HE.out with ⟨rfl, rfl, h3, h4⟩ | rfl
    · subst h3
      rcases h4 with ⟨h5, rfl⟩ | ⟨h5, rfl⟩
      · have hc1 : (c.lo == 1) = true := by rw [h5]; rfl
        have hc0 : (c.lo == 0) = false := by rw [h5]; rfl
        have a50 : w5.cell? ⟨w.heap.size, 0, none⟩ = some (.int .i64 r1.w) := cell_of fa5.out 0 rfl
        have a51 : w5.cell? ⟨w.heap.size, 1, none⟩ = some (.int .u64 r1.lo) := cell_of fa5.out 1 rfl
        have a52 : w5.cell? ⟨w.heap.size, 2, none⟩ = some (.int .u64 r1.hi) := cell_of fa5.out 2 rfl
        have la5 : w.heap.size < w5.heap.size := by omega
        have b50 : w5.cell? ⟨w.heap.size + 1, 0, none⟩ = some (.int .i64 b.w) := cell_of fb5.out 0 rfl
        have b51 : w5.cell? ⟨w.heap.size + 1, 1, none⟩ = some (.int .u64 b.lo) := cell_of fb5.out 1 rfl
        have b52 : w5.cell? ⟨w.heap.size + 1, 2, none⟩ = some (.int .u64 b.hi) := cell_of fb5.out 2 rfl
        have lb5 : w.heap.size + 1 < w5.heap.size := by omega
        have c50 : w5.cell? ⟨w.heap.size + 2, 0, none⟩ = some (.int .i64 c.w) := cell_of fc5.out 0 rfl
        have c51 : w5.cell? ⟨w.heap.size + 2, 1, none⟩ = some (.int .u64 c.lo) := cell_of fc5.out 1 rfl
        have c52 : w5.cell? ⟨w.heap.size + 2, 2, none⟩ = some (.int .u64 c.hi) := cell_of fc5.out 2 rfl
        have lc5 : w.heap.size + 2 < w5.heap.size := by omega
        have d50 : w5.cell? ⟨w4.heap.size, 0, none⟩ = some (.int .i64 r1.w) := cell_of fd5.out 0 rfl
        have d51 : w5.cell? ⟨w4.heap.size, 1, none⟩ = some (.int .u64 r1.lo) := cell_of fd5.out 1 rfl
        have d52 : w5.cell? ⟨w4.heap.size, 2, none⟩ = some (.int .u64 r1.hi) := cell_of fd5.out 2 rfl
        have ld5 : w4.heap.size < w5.heap.size := by omega
        go_wp2_with fail
        go_ret
        exact ⟨rfl, by go_grown⟩
      · have hc1 : (c.lo == 1) = false := by rw [h5]; rfl
        have hc0 : (c.lo == 0) = true := by rw [h5]; rfl
        have a50 : w5.cell? ⟨w.heap.size, 0, none⟩ = some (.int .i64 a.w) := cell_of fa5.out 0 rfl
        have a51 : w5.cell? ⟨w.heap.size, 1, none⟩ = some (.int .u64 a.lo) := cell_of fa5.out 1 rfl
        have a52 : w5.cell? ⟨w.heap.size, 2, none⟩ = some (.int .u64 a.hi) := cell_of fa5.out 2 rfl
        have la5 : w.heap.size < w5.heap.size := by omega
        have b50 : w5.cell? ⟨w.heap.size + 1, 0, none⟩ = some (.int .i64 r1.w) := cell_of fb5.out 0 rfl
        have b51 : w5.cell? ⟨w.heap.size + 1, 1, none⟩ = some (.int .u64 r1.lo) := cell_of fb5.out 1 rfl
        have b52 : w5.cell? ⟨w.heap.size + 1, 2, none⟩ = some (.int .u64 r1.hi) := cell_of fb5.out 2 rfl
        have lb5 : w.heap.size + 1 < w5.heap.size := by omega
        have c50 : w5.cell? ⟨w.heap.size + 2, 0, none⟩ = some (.int .i64 c.w) := cell_of fc5.out 0 rfl
        have c51 : w5.cell? ⟨w.heap.size + 2, 1, none⟩ = some (.int .u64 c.lo) := cell_of fc5.out 1 rfl
        have c52 : w5.cell? ⟨w.heap.size + 2, 2, none⟩ = some (.int .u64 c.hi) := cell_of fc5.out 2 rfl
        have lc5 : w.heap.size + 2 < w5.heap.size := by omega
        have d50 : w5.cell? ⟨w4.heap.size, 0, none⟩ = some (.int .i64 r1.w) := cell_of fd5.out 0 rfl
        have d51 : w5.cell? ⟨w4.heap.size, 1, none⟩ = some (.int .u64 r1.lo) := cell_of fd5.out 1 rfl
        have d52 : w5.cell? ⟨w4.heap.size, 2, none⟩ = some (.int .u64 r1.hi) := cell_of fd5.out 2 rfl
        have ld5 : w4.heap.size < w5.heap.size := by omega
        go_wp2_with fail
        go_ret
        exact ⟨rfl, by go_grown⟩
    · go_wp2_with fail
      go_ret
      exact ⟨rfl, by go_grown⟩

end Go.Proofs.Ytnflphhckgeneaa
