/- The walk of EvalTurned, with no operator that is turned. (Made by a script.) -/
import Derived.Test.YtnflphhckgeneaaEA20
import Derived.Test.YtnflphhckgeneaaEA19
namespace Go.Proofs.Ytnflphhckgeneaa
open Go.RowKit
set_option linter.unusedSimpArgs false
set_option linter.unusedVariables false

theorem neb (a b c : Int) (w : World) : (binOp .neq 24 (.agg #[.int .i64 a, .int .u64 b, .int .u64 c]) (.agg #[.int .i64 a, .int .u64 b, .int .u64 c])).run Try.prog w = .ok (.bool false) w := by simp [go_sem]
theorem lb_of2 {w : World} {g : Nat} {a b : Bt} {t : TypeId} (h : w.heap[g]? = some (.cells #[.int .i64 a.w, .int .u64 a.lo, .int .u64 a.hi, .int .i64 b.w, .int .u64 b.lo, .int .u64 b.hi] t)) : Lb w g 0 [a, b] := fun j x hj k u hu => by
  have ht : k = 0 ∨ k = 1 ∨ k = 2 := by have := (List.getElem?_eq_some_iff.1 hu).1; simp [Bt.cs] at this; omega
  match j, hj with
  | 0, hj => obtain rfl := Option.some.inj hj; rcases ht with rfl | rfl | rfl <;> exact cell_of h _ hu
  | 1, hj => obtain rfl := Option.some.inj hj; rcases ht with rfl | rfl | rfl <;> exact cell_of h _ hu
  | q + 2, hj => simp at hj
theorem lb_of3 {w : World} {g : Nat} {a b c : Bt} {t : TypeId} (h : w.heap[g]? = some (.cells #[.int .i64 a.w, .int .u64 a.lo, .int .u64 a.hi, .int .i64 b.w, .int .u64 b.lo, .int .u64 b.hi, .int .i64 c.w, .int .u64 c.lo, .int .u64 c.hi] t)) : Lb w g 0 [a, b, c] := fun j x hj k u hu => by
  have ht : k = 0 ∨ k = 1 ∨ k = 2 := by have := (List.getElem?_eq_some_iff.1 hu).1; simp [Bt.cs] at this; omega
  match j, hj with
  | 0, hj => obtain rfl := Option.some.inj hj; rcases ht with rfl | rfl | rfl <;> exact cell_of h _ hu
  | 1, hj => obtain rfl := Option.some.inj hj; rcases ht with rfl | rfl | rfl <;> exact cell_of h _ hu
  | 2, hj => obtain rfl := Option.some.inj hj; rcases ht with rfl | rfl | rfl <;> exact cell_of h _ hu
  | q + 3, hj => simp at hj
set_option maxRecDepth 20000 in
set_option maxHeartbeats 12800000 in
theorem turn_no {a b c r1 r2 : Bt} {op e1 e2 m : Int} (hop : ¬ op = 4 ∧ ¬ op = 5 ∧ ¬ op = 6 ∧ ¬ op = 8 ∧ ¬ op = 12 ∧ ¬ op = 13 ∧ ¬ op = 14 ∧ ¬ op = 15 ∧ ¬ op = 16 ∧ ¬ op = 17 ∧ ¬ op = 18 ∧ ¬ op = 20 ∧ ¬ op = 37) (HI : Hid (Ap 9 [c, a, b] r1 e1)) (HJ : Hid (Ap 9 [⟨0, 1 - m, 0⟩, b, a] r2 e2)) (hm : bits .and .u64 c.lo 1 = m) (hm2 : m = 0 ∨ m = 1)
    (HE : Hid ((e1 = 0 ∧ e2 = 0 ∧ r1 = r2 ∧ ((c.lo = 1 ∧ r1 = a) ∨ (c.lo = 0 ∧ r1 = b))) ∨ e1 = 30)) (w : World) :
    Calls Try.prog 3 #[.int .i64 op, .agg #[.int .i64 a.w, .int .u64 a.lo, .int .u64 a.hi], .agg #[.int .i64 b.w, .int .u64 b.lo, .int .u64 b.hi], .agg #[.int .i64 c.w, .int .u64 c.lo, .int .u64 c.hi]] w fun e w' => e = .returned (.bool true) ∧ Below w.heap.size w w' := by
  have z4 : (op == 4) = false := by simp; omega
  have z5 : (op == 5) = false := by simp; omega
  have z6 : (op == 6) = false := by simp; omega
  have z8 : (op == 8) = false := by simp; omega
  have z12 : (op == 12) = false := by simp; omega
  have z13 : (op == 13) = false := by simp; omega
  have z14 : (op == 14) = false := by simp; omega
  have z15 : (op == 15) = false := by simp; omega
  have z16 : (op == 16) = false := by simp; omega
  have z17 : (op == 17) = false := by simp; omega
  have z18 : (op == 18) = false := by simp; omega
  have z20 : (op == 20) = false := by simp; omega
  have z37 : (op == 37) = false := by simp; omega
  clear hop
  have hqe := eqb
  have hqn := neb
  go_enter Try.func3, Try.ntmps3
  go_wp2_with fail
  refine (known4 _).mono ?_
  rintro e w1 ⟨rfl, hb⟩
  have s1 : w.heap.size + 3 ≤ w1.heap.size := by have := hb.size; rw [size_alloc', size_alloc', size_alloc'] at this; exact this
  have B1 : Below w.heap.size w w1 := ((((Below.refl w.heap.size w).alloc (Nat.le_refl _) (.cells #[.int .i64 a.w, .int .u64 a.lo, .int .u64 a.hi] 24)).alloc (by rw [size_alloc']; omega) (.cells #[.int .i64 b.w, .int .u64 b.lo, .int .u64 b.hi] 24)).alloc (by rw [size_alloc', size_alloc']; omega) (.cells #[.int .i64 c.w, .int .u64 c.lo, .int .u64 c.hi] 24)).trans (hb.mono (by rw [size_alloc', size_alloc', size_alloc']; omega))
  have fa1 : Hid (w1.heap[w.heap.size]? = some (.cells #[.int .i64 a.w, .int .u64 a.lo, .int .u64 a.hi] 24)) := (hb.block _ (by rw [size_alloc', size_alloc', size_alloc']; omega)).trans ((heap_alloc_old _ _ (by rw [size_alloc', size_alloc']; omega)).trans ((heap_alloc_old _ _ (by rw [size_alloc']; omega)).trans (heap_alloc_new w (.cells #[.int .i64 a.w, .int .u64 a.lo, .int .u64 a.hi] 24))))
  have fb1 : Hid (w1.heap[w.heap.size + 1]? = some (.cells #[.int .i64 b.w, .int .u64 b.lo, .int .u64 b.hi] 24)) := (hb.block _ (by rw [size_alloc', size_alloc', size_alloc']; omega)).trans ((heap_alloc_old _ _ (by rw [size_alloc', size_alloc']; omega)).trans (by have := heap_alloc_new (w.alloc (.cells #[.int .i64 a.w, .int .u64 a.lo, .int .u64 a.hi] 24)) (.cells #[.int .i64 b.w, .int .u64 b.lo, .int .u64 b.hi] 24); rw [size_alloc'] at this; exact this))
  have fc1 : Hid (w1.heap[w.heap.size + 2]? = some (.cells #[.int .i64 c.w, .int .u64 c.lo, .int .u64 c.hi] 24)) := (hb.block _ (by rw [size_alloc', size_alloc', size_alloc']; omega)).trans (by have := heap_alloc_new ((w.alloc (.cells #[.int .i64 a.w, .int .u64 a.lo, .int .u64 a.hi] 24)).alloc (.cells #[.int .i64 b.w, .int .u64 b.lo, .int .u64 b.hi] 24)) (.cells #[.int .i64 c.w, .int .u64 c.lo, .int .u64 c.hi] 24); rw [size_alloc', size_alloc'] at this; exact this)
  clear hb
  have a10 : w1.cell? ⟨w.heap.size, 0, none⟩ = some (.int .i64 a.w) := cell_of fa1.out 0 rfl
  have a11 : w1.cell? ⟨w.heap.size, 1, none⟩ = some (.int .u64 a.lo) := cell_of fa1.out 1 rfl
  have a12 : w1.cell? ⟨w.heap.size, 2, none⟩ = some (.int .u64 a.hi) := cell_of fa1.out 2 rfl
  have la1 : w.heap.size < w1.heap.size := by omega
  have b10 : w1.cell? ⟨w.heap.size + 1, 0, none⟩ = some (.int .i64 b.w) := cell_of fb1.out 0 rfl
  have b11 : w1.cell? ⟨w.heap.size + 1, 1, none⟩ = some (.int .u64 b.lo) := cell_of fb1.out 1 rfl
  have b12 : w1.cell? ⟨w.heap.size + 1, 2, none⟩ = some (.int .u64 b.hi) := cell_of fb1.out 2 rfl
  have lb1 : w.heap.size + 1 < w1.heap.size := by omega
  have c10 : w1.cell? ⟨w.heap.size + 2, 0, none⟩ = some (.int .i64 c.w) := cell_of fc1.out 0 rfl
  have c11 : w1.cell? ⟨w.heap.size + 2, 1, none⟩ = some (.int .u64 c.lo) := cell_of fc1.out 1 rfl
  have c12 : w1.cell? ⟨w.heap.size + 2, 2, none⟩ = some (.int .u64 c.hi) := cell_of fc1.out 2 rfl
  have lc1 : w.heap.size + 2 < w1.heap.size := by omega
  go_wp2_with fail
  clear a10 a11 a12 b10 b11 b12 c10 c11 c12 la1 lb1 lc1
  refine (HI.out _ _ 3 (by
    have hc := heap_alloc_new (w1) (.cells #[.int .i64 c.w, .int .u64 c.lo, .int .u64 c.hi, .int .i64 a.w, .int .u64 a.lo, .int .u64 a.hi, .int .i64 b.w, .int .u64 b.lo, .int .u64 b.hi] 24)
    exact lb_of3 hc) (by simp)).mono ?_
  rintro e w4 ⟨rfl, hb⟩
  have s4 : w1.heap.size + 1 ≤ w4.heap.size := by have := hb.size; rw [size_alloc'] at this; exact this
  have B4 : Below w.heap.size w w4 := (B1.alloc (by have := B1.size; omega) (.cells #[.int .i64 c.w, .int .u64 c.lo, .int .u64 c.hi, .int .i64 a.w, .int .u64 a.lo, .int .u64 a.hi, .int .i64 b.w, .int .u64 b.lo, .int .u64 b.hi] 24)).trans (hb.mono (by rw [size_alloc']; have := B1.size; omega))
  have fa4 : Hid (w4.heap[w.heap.size]? = some (.cells #[.int .i64 a.w, .int .u64 a.lo, .int .u64 a.hi] 24)) := (hb.block _ (by rw [size_alloc']; omega)).trans ((heap_alloc_old _ (.cells #[.int .i64 c.w, .int .u64 c.lo, .int .u64 c.hi, .int .i64 a.w, .int .u64 a.lo, .int .u64 a.hi, .int .i64 b.w, .int .u64 b.lo, .int .u64 b.hi] 24) (by omega)).trans (fa1.out))
  have fb4 : Hid (w4.heap[w.heap.size + 1]? = some (.cells #[.int .i64 b.w, .int .u64 b.lo, .int .u64 b.hi] 24)) := (hb.block _ (by rw [size_alloc']; omega)).trans ((heap_alloc_old _ (.cells #[.int .i64 c.w, .int .u64 c.lo, .int .u64 c.hi, .int .i64 a.w, .int .u64 a.lo, .int .u64 a.hi, .int .i64 b.w, .int .u64 b.lo, .int .u64 b.hi] 24) (by omega)).trans (fb1.out))
  have fc4 : Hid (w4.heap[w.heap.size + 2]? = some (.cells #[.int .i64 c.w, .int .u64 c.lo, .int .u64 c.hi] 24)) := (hb.block _ (by rw [size_alloc']; omega)).trans ((heap_alloc_old _ (.cells #[.int .i64 c.w, .int .u64 c.lo, .int .u64 c.hi, .int .i64 a.w, .int .u64 a.lo, .int .u64 a.hi, .int .i64 b.w, .int .u64 b.lo, .int .u64 b.hi] 24) (by omega)).trans (fc1.out))
  clear hb
  have a40 : w4.cell? ⟨w.heap.size, 0, none⟩ = some (.int .i64 a.w) := cell_of fa4.out 0 rfl
  have a41 : w4.cell? ⟨w.heap.size, 1, none⟩ = some (.int .u64 a.lo) := cell_of fa4.out 1 rfl
  have a42 : w4.cell? ⟨w.heap.size, 2, none⟩ = some (.int .u64 a.hi) := cell_of fa4.out 2 rfl
  have la4 : w.heap.size < w4.heap.size := by omega
  have b40 : w4.cell? ⟨w.heap.size + 1, 0, none⟩ = some (.int .i64 b.w) := cell_of fb4.out 0 rfl
  have b41 : w4.cell? ⟨w.heap.size + 1, 1, none⟩ = some (.int .u64 b.lo) := cell_of fb4.out 1 rfl
  have b42 : w4.cell? ⟨w.heap.size + 1, 2, none⟩ = some (.int .u64 b.hi) := cell_of fb4.out 2 rfl
  have lb4 : w.heap.size + 1 < w4.heap.size := by omega
  have c40 : w4.cell? ⟨w.heap.size + 2, 0, none⟩ = some (.int .i64 c.w) := cell_of fc4.out 0 rfl
  have c41 : w4.cell? ⟨w.heap.size + 2, 1, none⟩ = some (.int .u64 c.lo) := cell_of fc4.out 1 rfl
  have c42 : w4.cell? ⟨w.heap.size + 2, 2, none⟩ = some (.int .u64 c.hi) := cell_of fc4.out 2 rfl
  have lc4 : w.heap.size + 2 < w4.heap.size := by omega
  rcases hm2 with rfl | rfl
  · go_wp2_with fail
    clear a40 a41 a42 b40 b41 b42 c40 c41 c42 la4 lb4 lc4
    refine (HJ.out _ _ 3 (by
      have hc := heap_alloc_new (w4.alloc (.cells #[.int .i64 r1.w, .int .u64 r1.lo, .int .u64 r1.hi] 24)) (.cells #[.int .i64 0, .int .u64 1, .int .u64 0, .int .i64 b.w, .int .u64 b.lo, .int .u64 b.hi, .int .i64 a.w, .int .u64 a.lo, .int .u64 a.hi] 24)
      rw [size_alloc'] at hc
      exact lb_of3 hc) (by simp)).mono ?_
    rintro e w5 ⟨rfl, hb⟩
    have s5 : w4.heap.size + 2 ≤ w5.heap.size := by have := hb.size; rw [size_alloc', size_alloc'] at this; exact this
    have B5 : Below w.heap.size w w5 := ((B4.alloc (by have := B4.size; omega) (.cells #[.int .i64 r1.w, .int .u64 r1.lo, .int .u64 r1.hi] 24)).alloc (by rw [size_alloc']; have := B4.size; omega) (.cells #[.int .i64 0, .int .u64 1, .int .u64 0, .int .i64 b.w, .int .u64 b.lo, .int .u64 b.hi, .int .i64 a.w, .int .u64 a.lo, .int .u64 a.hi] 24)).trans (hb.mono (by rw [size_alloc', size_alloc']; have := B4.size; omega))
    have fa5 : Hid (w5.heap[w.heap.size]? = some (.cells #[.int .i64 a.w, .int .u64 a.lo, .int .u64 a.hi] 24)) := (hb.block _ (by rw [size_alloc', size_alloc']; omega)).trans ((heap_alloc_old _ (.cells #[.int .i64 0, .int .u64 1, .int .u64 0, .int .i64 b.w, .int .u64 b.lo, .int .u64 b.hi, .int .i64 a.w, .int .u64 a.lo, .int .u64 a.hi] 24) (by rw [size_alloc']; omega)).trans ((heap_alloc_old _ (.cells #[.int .i64 r1.w, .int .u64 r1.lo, .int .u64 r1.hi] 24) (by omega)).trans (fa4.out)))
    have fb5 : Hid (w5.heap[w.heap.size + 1]? = some (.cells #[.int .i64 b.w, .int .u64 b.lo, .int .u64 b.hi] 24)) := (hb.block _ (by rw [size_alloc', size_alloc']; omega)).trans ((heap_alloc_old _ (.cells #[.int .i64 0, .int .u64 1, .int .u64 0, .int .i64 b.w, .int .u64 b.lo, .int .u64 b.hi, .int .i64 a.w, .int .u64 a.lo, .int .u64 a.hi] 24) (by rw [size_alloc']; omega)).trans ((heap_alloc_old _ (.cells #[.int .i64 r1.w, .int .u64 r1.lo, .int .u64 r1.hi] 24) (by omega)).trans (fb4.out)))
    have fc5 : Hid (w5.heap[w.heap.size + 2]? = some (.cells #[.int .i64 c.w, .int .u64 c.lo, .int .u64 c.hi] 24)) := (hb.block _ (by rw [size_alloc', size_alloc']; omega)).trans ((heap_alloc_old _ (.cells #[.int .i64 0, .int .u64 1, .int .u64 0, .int .i64 b.w, .int .u64 b.lo, .int .u64 b.hi, .int .i64 a.w, .int .u64 a.lo, .int .u64 a.hi] 24) (by rw [size_alloc']; omega)).trans ((heap_alloc_old _ (.cells #[.int .i64 r1.w, .int .u64 r1.lo, .int .u64 r1.hi] 24) (by omega)).trans (fc4.out)))
    have fd5 : Hid (w5.heap[w4.heap.size]? = some (.cells #[.int .i64 r1.w, .int .u64 r1.lo, .int .u64 r1.hi] 24)) := (hb.block _ (by rw [size_alloc', size_alloc']; omega)).trans ((heap_alloc_old _ (.cells #[.int .i64 0, .int .u64 1, .int .u64 0, .int .i64 b.w, .int .u64 b.lo, .int .u64 b.hi, .int .i64 a.w, .int .u64 a.lo, .int .u64 a.hi] 24) (by rw [size_alloc']; omega)).trans (heap_alloc_new w4 (.cells #[.int .i64 r1.w, .int .u64 r1.lo, .int .u64 r1.hi] 24)))
    clear hb
    rcases HE.out with ⟨rfl, rfl, h3, h4⟩ | rfl
    · subst h3
      rcases h4 with ⟨h5, rfl⟩ | ⟨h5, rfl⟩
      · have hc1 : (c.lo == 1) = true := by rw [h5]; rfl
        have hc0 : (c.lo == 0) = false := by rw [h5]; rfl
        have a50 : w5.cell? ⟨w.heap.size, 0, none⟩ = some (.int .i64 r1.w) := cell_of fa5.out 0 rfl
        have a51 : w5.cell? ⟨w.heap.size, 1, none⟩ = some (.int .u64 r1.lo) := cell_of fa5.out 1 rfl
        have a52 : w5.cell? ⟨w.heap.size, 2, none⟩ = some (.int .u64 r1.hi) := cell_of fa5.out 2 rfl
        have la5 : w.heap.size < w5.heap.size := by omega
        have b50 : w5.cell? ⟨w.heap.size + 1, 0, none⟩ = some (.int .i64 b.w) := cell_of fb5.out 0 rfl
        have b51 : w5.cell? ⟨w.heap.size + 1, 1, none⟩ = some (.int .u64 b.lo) := cell_of fb5.out 1 rfl
        have b52 : w5.cell? ⟨w.heap.size + 1, 2, none⟩ = some (.int .u64 b.hi) := cell_of fb5.out 2 rfl
        have lb5 : w.heap.size + 1 < w5.heap.size := by omega
        have c50 : w5.cell? ⟨w.heap.size + 2, 0, none⟩ = some (.int .i64 c.w) := cell_of fc5.out 0 rfl
        have c51 : w5.cell? ⟨w.heap.size + 2, 1, none⟩ = some (.int .u64 c.lo) := cell_of fc5.out 1 rfl
        have c52 : w5.cell? ⟨w.heap.size + 2, 2, none⟩ = some (.int .u64 c.hi) := cell_of fc5.out 2 rfl
        have lc5 : w.heap.size + 2 < w5.heap.size := by omega
        have d50 : w5.cell? ⟨w4.heap.size, 0, none⟩ = some (.int .i64 r1.w) := cell_of fd5.out 0 rfl
        have d51 : w5.cell? ⟨w4.heap.size, 1, none⟩ = some (.int .u64 r1.lo) := cell_of fd5.out 1 rfl
        have d52 : w5.cell? ⟨w4.heap.size, 2, none⟩ = some (.int .u64 r1.hi) := cell_of fd5.out 2 rfl
        have ld5 : w4.heap.size < w5.heap.size := by omega
        go_wp2_with fail
        go_ret
        exact ⟨rfl, by go_grown⟩
      · have hc1 : (c.lo == 1) = false := by rw [h5]; rfl
        have hc0 : (c.lo == 0) = true := by rw [h5]; rfl
        have a50 : w5.cell? ⟨w.heap.size, 0, none⟩ = some (.int .i64 a.w) := cell_of fa5.out 0 rfl
        have a51 : w5.cell? ⟨w.heap.size, 1, none⟩ = some (.int .u64 a.lo) := cell_of fa5.out 1 rfl
        have a52 : w5.cell? ⟨w.heap.size, 2, none⟩ = some (.int .u64 a.hi) := cell_of fa5.out 2 rfl
        have la5 : w.heap.size < w5.heap.size := by omega
        have b50 : w5.cell? ⟨w.heap.size + 1, 0, none⟩ = some (.int .i64 r1.w) := cell_of fb5.out 0 rfl
        have b51 : w5.cell? ⟨w.heap.size + 1, 1, none⟩ = some (.int .u64 r1.lo) := cell_of fb5.out 1 rfl
        have b52 : w5.cell? ⟨w.heap.size + 1, 2, none⟩ = some (.int .u64 r1.hi) := cell_of fb5.out 2 rfl
        have lb5 : w.heap.size + 1 < w5.heap.size := by omega
        have c50 : w5.cell? ⟨w.heap.size + 2, 0, none⟩ = some (.int .i64 c.w) := cell_of fc5.out 0 rfl
        have c51 : w5.cell? ⟨w.heap.size + 2, 1, none⟩ = some (.int .u64 c.lo) := cell_of fc5.out 1 rfl
        have c52 : w5.cell? ⟨w.heap.size + 2, 2, none⟩ = some (.int .u64 c.hi) := cell_of fc5.out 2 rfl
        have lc5 : w.heap.size + 2 < w5.heap.size := by omega
        have d50 : w5.cell? ⟨w4.heap.size, 0, none⟩ = some (.int .i64 r1.w) := cell_of fd5.out 0 rfl
        have d51 : w5.cell? ⟨w4.heap.size, 1, none⟩ = some (.int .u64 r1.lo) := cell_of fd5.out 1 rfl
        have d52 : w5.cell? ⟨w4.heap.size, 2, none⟩ = some (.int .u64 r1.hi) := cell_of fd5.out 2 rfl
        have ld5 : w4.heap.size < w5.heap.size := by omega
        go_wp2_with fail
        go_ret
        exact ⟨rfl, by go_grown⟩
    · go_wp2_with fail
      go_ret
      exact ⟨rfl, by go_grown⟩
  · go_wp2_with fail
    clear a40 a41 a42 b40 b41 b42 c40 c41 c42 la4 lb4 lc4
    refine (HJ.out _ _ 3 (by
      have hc := heap_alloc_new (w4.alloc (.cells #[.int .i64 r1.w, .int .u64 r1.lo, .int .u64 r1.hi] 24)) (.cells #[.int .i64 0, .int .u64 0, .int .u64 0, .int .i64 b.w, .int .u64 b.lo, .int .u64 b.hi, .int .i64 a.w, .int .u64 a.lo, .int .u64 a.hi] 24)
      rw [size_alloc'] at hc
      exact lb_of3 hc) (by simp)).mono ?_
    rintro e w5 ⟨rfl, hb⟩
    have s5 : w4.heap.size + 2 ≤ w5.heap.size := by have := hb.size; rw [size_alloc', size_alloc'] at this; exact this
    have B5 : Below w.heap.size w w5 := ((B4.alloc (by have := B4.size; omega) (.cells #[.int .i64 r1.w, .int .u64 r1.lo, .int .u64 r1.hi] 24)).alloc (by rw [size_alloc']; have := B4.size; omega) (.cells #[.int .i64 0, .int .u64 0, .int .u64 0, .int .i64 b.w, .int .u64 b.lo, .int .u64 b.hi, .int .i64 a.w, .int .u64 a.lo, .int .u64 a.hi] 24)).trans (hb.mono (by rw [size_alloc', size_alloc']; have := B4.size; omega))
    have fa5 : Hid (w5.heap[w.heap.size]? = some (.cells #[.int .i64 a.w, .int .u64 a.lo, .int .u64 a.hi] 24)) := (hb.block _ (by rw [size_alloc', size_alloc']; omega)).trans ((heap_alloc_old _ (.cells #[.int .i64 0, .int .u64 0, .int .u64 0, .int .i64 b.w, .int .u64 b.lo, .int .u64 b.hi, .int .i64 a.w, .int .u64 a.lo, .int .u64 a.hi] 24) (by rw [size_alloc']; omega)).trans ((heap_alloc_old _ (.cells #[.int .i64 r1.w, .int .u64 r1.lo, .int .u64 r1.hi] 24) (by omega)).trans (fa4.out)))
    have fb5 : Hid (w5.heap[w.heap.size + 1]? = some (.cells #[.int .i64 b.w, .int .u64 b.lo, .int .u64 b.hi] 24)) := (hb.block _ (by rw [size_alloc', size_alloc']; omega)).trans ((heap_alloc_old _ (.cells #[.int .i64 0, .int .u64 0, .int .u64 0, .int .i64 b.w, .int .u64 b.lo, .int .u64 b.hi, .int .i64 a.w, .int .u64 a.lo, .int .u64 a.hi] 24) (by rw [size_alloc']; omega)).trans ((heap_alloc_old _ (.cells #[.int .i64 r1.w, .int .u64 r1.lo, .int .u64 r1.hi] 24) (by omega)).trans (fb4.out)))
    have fc5 : Hid (w5.heap[w.heap.size + 2]? = some (.cells #[.int .i64 c.w, .int .u64 c.lo, .int .u64 c.hi] 24)) := (hb.block _ (by rw [size_alloc', size_alloc']; omega)).trans ((heap_alloc_old _ (.cells #[.int .i64 0, .int .u64 0, .int .u64 0, .int .i64 b.w, .int .u64 b.lo, .int .u64 b.hi, .int .i64 a.w, .int .u64 a.lo, .int .u64 a.hi] 24) (by rw [size_alloc']; omega)).trans ((heap_alloc_old _ (.cells #[.int .i64 r1.w, .int .u64 r1.lo, .int .u64 r1.hi] 24) (by omega)).trans (fc4.out)))
    have fd5 : Hid (w5.heap[w4.heap.size]? = some (.cells #[.int .i64 r1.w, .int .u64 r1.lo, .int .u64 r1.hi] 24)) := (hb.block _ (by rw [size_alloc', size_alloc']; omega)).trans ((heap_alloc_old _ (.cells #[.int .i64 0, .int .u64 0, .int .u64 0, .int .i64 b.w, .int .u64 b.lo, .int .u64 b.hi, .int .i64 a.w, .int .u64 a.lo, .int .u64 a.hi] 24) (by rw [size_alloc']; omega)).trans (heap_alloc_new w4 (.cells #[.int .i64 r1.w, .int .u64 r1.lo, .int .u64 r1.hi] 24)))
    clear hb
    rcases HE.out with ⟨rfl, rfl, h3, h4⟩ | rfl
    · subst h3
      rcases h4 with ⟨h5, rfl⟩ | ⟨h5, rfl⟩
      · have hc1 : (c.lo == 1) = true := by rw [h5]; rfl
        have hc0 : (c.lo == 0) = false := by rw [h5]; rfl
        have a50 : w5.cell? ⟨w.heap.size, 0, none⟩ = some (.int .i64 r1.w) := cell_of fa5.out 0 rfl
        have a51 : w5.cell? ⟨w.heap.size, 1, none⟩ = some (.int .u64 r1.lo) := cell_of fa5.out 1 rfl
        have a52 : w5.cell? ⟨w.heap.size, 2, none⟩ = some (.int .u64 r1.hi) := cell_of fa5.out 2 rfl
        have la5 : w.heap.size < w5.heap.size := by omega
        have b50 : w5.cell? ⟨w.heap.size + 1, 0, none⟩ = some (.int .i64 b.w) := cell_of fb5.out 0 rfl
        have b51 : w5.cell? ⟨w.heap.size + 1, 1, none⟩ = some (.int .u64 b.lo) := cell_of fb5.out 1 rfl
        have b52 : w5.cell? ⟨w.heap.size + 1, 2, none⟩ = some (.int .u64 b.hi) := cell_of fb5.out 2 rfl
        have lb5 : w.heap.size + 1 < w5.heap.size := by omega
        have c50 : w5.cell? ⟨w.heap.size + 2, 0, none⟩ = some (.int .i64 c.w) := cell_of fc5.out 0 rfl
        have c51 : w5.cell? ⟨w.heap.size + 2, 1, none⟩ = some (.int .u64 c.lo) := cell_of fc5.out 1 rfl
        have c52 : w5.cell? ⟨w.heap.size + 2, 2, none⟩ = some (.int .u64 c.hi) := cell_of fc5.out 2 rfl
        have lc5 : w.heap.size + 2 < w5.heap.size := by omega
        have d50 : w5.cell? ⟨w4.heap.size, 0, none⟩ = some (.int .i64 r1.w) := cell_of fd5.out 0 rfl
        have d51 : w5.cell? ⟨w4.heap.size, 1, none⟩ = some (.int .u64 r1.lo) := cell_of fd5.out 1 rfl
        have d52 : w5.cell? ⟨w4.heap.size, 2, none⟩ = some (.int .u64 r1.hi) := cell_of fd5.out 2 rfl
        have ld5 : w4.heap.size < w5.heap.size := by omega
        go_wp2_with fail
        go_ret
        exact ⟨rfl, by go_grown⟩
      · have hc1 : (c.lo == 1) = false := by rw [h5]; rfl
        have hc0 : (c.lo == 0) = true := by rw [h5]; rfl
        have a50 : w5.cell? ⟨w.heap.size, 0, none⟩ = some (.int .i64 a.w) := cell_of fa5.out 0 rfl
        have a51 : w5.cell? ⟨w.heap.size, 1, none⟩ = some (.int .u64 a.lo) := cell_of fa5.out 1 rfl
        have a52 : w5.cell? ⟨w.heap.size, 2, none⟩ = some (.int .u64 a.hi) := cell_of fa5.out 2 rfl
        have la5 : w.heap.size < w5.heap.size := by omega
        have b50 : w5.cell? ⟨w.heap.size + 1, 0, none⟩ = some (.int .i64 r1.w) := cell_of fb5.out 0 rfl
        have b51 : w5.cell? ⟨w.heap.size + 1, 1, none⟩ = some (.int .u64 r1.lo) := cell_of fb5.out 1 rfl
        have b52 : w5.cell? ⟨w.heap.size + 1, 2, none⟩ = some (.int .u64 r1.hi) := cell_of fb5.out 2 rfl
        have lb5 : w.heap.size + 1 < w5.heap.size := by omega
        have c50 : w5.cell? ⟨w.heap.size + 2, 0, none⟩ = some (.int .i64 c.w) := cell_of fc5.out 0 rfl
        have c51 : w5.cell? ⟨w.heap.size + 2, 1, none⟩ = some (.int .u64 c.lo) := cell_of fc5.out 1 rfl
        have c52 : w5.cell? ⟨w.heap.size + 2, 2, none⟩ = some (.int .u64 c.hi) := cell_of fc5.out 2 rfl
        have lc5 : w.heap.size + 2 < w5.heap.size := by omega
        have d50 : w5.cell? ⟨w4.heap.size, 0, none⟩ = some (.int .i64 r1.w) := cell_of fd5.out 0 rfl
        have d51 : w5.cell? ⟨w4.heap.size, 1, none⟩ = some (.int .u64 r1.lo) := cell_of fd5.out 1 rfl
        have d52 : w5.cell? ⟨w4.heap.size, 2, none⟩ = some (.int .u64 r1.hi) := cell_of fd5.out 2 rfl
        have ld5 : w4.heap.size < w5.heap.size := by omega
        go_wp2_with fail
        go_ret
        exact ⟨rfl, by go_grown⟩
    · go_wp2_with fail
      go_ret
      exact ⟨rfl, by go_grown⟩

end Go.Proofs.Ytnflphhckgeneaa
