/- Contracts (the document): what operators mean: truths, choices. (Made by a script.) -/
import Derived.Test.YtnflphhckgeneaaGreatEA11
import Derived.Test.YtnflphhckgeneaaGreatU21
import Derived.Test.YtnflphhckgeneaaGreatMg2
namespace Go.Proofs.YtnflphhckgeneaaGreat
set_option maxHeartbeats 12800000
set_option maxRecDepth 100000
open Go.RowKit
set_option linter.unusedSimpArgs false
set_option linter.unusedVariables false

/-- The document's truth. -/
def dtr (b : Bt) : Bool := decide (b.lo = 1)
theorem truth_any (b : Bt) (w : World) : Rt 52 #[.agg #[.int .i64 b.w, .int .u64 b.lo, .int .u64 b.hi]] w (.bool (dtr b)) := by
  unfold dtr
  by_cases h : b.lo = 1
  · have z : (b.lo == 1) = true := by simp [h]
    rw [show decide (b.lo = 1) = true by simp [h]]
    clear h
    go_enter Tryz.func52, Tryz.ntmps52
    go_wp2_with fail
    go_ret
    exact ⟨rfl, by go_grown⟩
  · have z : (b.lo == 1) = false := by simp [h]
    rw [show decide (b.lo = 1) = false by simp [h]]
    clear h
    go_enter Tryz.func52, Tryz.ntmps52
    go_wp2_with fail
    go_ret
    exact ⟨rfl, by go_grown⟩
theorem dbool (b : Bool) (w : World) : Rt 51 #[.bool b] w (.agg #[.int .i64 0, .int .u64 (bT b).lo, .int .u64 0]) := by
  have h := refbool_b b w
  cases b <;> exact h

theorem dm_3 {w : World} {gb o cc : Nat} {va : Bt} {p q : Int} (h : Lb w gb o [va]) (hg : gb < w.heap.size) :
    Rt 31 #[.int .i64 3, .int .i64 p, .int .i64 q, .slice (some ⟨gb, o, none⟩) 1 cc] w (.agg #[.int .i64 0, .int .u64 (bT (!dtr va)).lo, .int .u64 0]) := by
  have va0 : w.cell? ⟨gb, o, none⟩ = some (.int .i64 va.w) := h 0 va rfl 0 _ rfl
  have va1 : w.cell? ⟨gb, o + 1, none⟩ = some (.int .u64 va.lo) := h 0 va rfl 1 _ rfl
  have va2 : w.cell? ⟨gb, o + 2, none⟩ = some (.int .u64 va.hi) := h 0 va rfl 2 _ rfl
  clear h
  have HBB : ∀ b, Hid (∀ wx, Rt 51 #[.bool b] wx (.agg #[.int .i64 0, .int .u64 (bT b).lo, .int .u64 0])) := fun b wx => dbool b wx
  have HA : Hid (∀ wx, Rt 52 #[.agg #[.int .i64 va.w, .int .u64 va.lo, .int .u64 va.hi]] wx (.bool (dtr va))) := fun wx => truth_any va wx
  obtain ⟨x, hx⟩ : ∃ x, x = dtr va := ⟨_, rfl⟩
  rw [← hx] at HA ⊢
  clear hx
  go_enter Tryz.func31, Tryz.ntmps31
  go_wp2_with fail
  refine (HA.out _).mono ?_
  rintro e w1 ⟨rfl, hb⟩
  have hB : Below w.heap.size w w1 := Below.trans (by go_grown) (hb.mono (by simp))
  have h8 : w1.heap[w.heap.size]? = some (.cells #[.int .i64 0, .int .u64 0, .int .u64 0] 34) := (hb.block _ (by simp)).trans (heap_alloc_new w _)
  have H8 : Hid _ := h8
  clear hb h8
  go_wp2_with fail
  refine ((HBB (!x)).out _).mono ?_
  rintro e w3 ⟨rfl, hb⟩
  have hB3 : Below w.heap.size w w3 := hB.trans (hb.mono hB.size)
  have h83 : w3.heap[w.heap.size]? = some (.cells #[.int .i64 0, .int .u64 0, .int .u64 0] 34) := (hb.block _ (Array.getElem?_eq_some_iff.1 H8.out).1).trans H8.out
  have r0 : w3.cell? ⟨w.heap.size, 0, none⟩ = some (.int .i64 0) := cell_of h83 0 rfl
  have r1 : w3.cell? ⟨w.heap.size, 1, none⟩ = some (.int .u64 0) := cell_of h83 1 rfl
  have r2 : w3.cell? ⟨w.heap.size, 2, none⟩ = some (.int .u64 0) := cell_of h83 2 rfl
  have rf : ∀ j, w3.frozen? ⟨w.heap.size, j, none⟩ = false := fun j => by simp [World.frozen?, h83]
  clear hb h83 H8 hB
  go_wp2_with fail
  refine bodyPost_ret (v := .agg #[.int .i64 0, .int .u64 (bT (!x)).lo, .int .u64 0]) (by simp [results, Tryz.results31, go_sem, r0, r1, r2]) rfl ?_
  exact ⟨rfl, by go_grown⟩

theorem dm_4 {w : World} {gb o cc : Nat} {va vb : Bt} {p q : Int} (h : Lb w gb o [va, vb]) (hg : gb < w.heap.size) :
    Rt 31 #[.int .i64 4, .int .i64 p, .int .i64 q, .slice (some ⟨gb, o, none⟩) 2 cc] w (.agg #[.int .i64 0, .int .u64 (bT (dtr va && dtr vb)).lo, .int .u64 0]) := by
  have va0 : w.cell? ⟨gb, o, none⟩ = some (.int .i64 va.w) := h 0 va rfl 0 _ rfl
  have va1 : w.cell? ⟨gb, o + 1, none⟩ = some (.int .u64 va.lo) := h 0 va rfl 1 _ rfl
  have va2 : w.cell? ⟨gb, o + 2, none⟩ = some (.int .u64 va.hi) := h 0 va rfl 2 _ rfl
  have vb0 : w.cell? ⟨gb, o + 3, none⟩ = some (.int .i64 vb.w) := h 1 vb rfl 0 _ rfl
  have vb1 : w.cell? ⟨gb, o + 4, none⟩ = some (.int .u64 vb.lo) := h 1 vb rfl 1 _ rfl
  have vb2 : w.cell? ⟨gb, o + 5, none⟩ = some (.int .u64 vb.hi) := h 1 vb rfl 2 _ rfl
  clear h
  have HBB : ∀ b, Hid (∀ wx, Rt 51 #[.bool b] wx (.agg #[.int .i64 0, .int .u64 (bT b).lo, .int .u64 0])) := fun b wx => dbool b wx
  have HA : Hid (∀ wx, Rt 52 #[.agg #[.int .i64 va.w, .int .u64 va.lo, .int .u64 va.hi]] wx (.bool (dtr va))) := fun wx => truth_any va wx
  have HB : Hid (∀ wx, Rt 52 #[.agg #[.int .i64 vb.w, .int .u64 vb.lo, .int .u64 vb.hi]] wx (.bool (dtr vb))) := fun wx => truth_any vb wx
  obtain ⟨y, hy⟩ : ∃ y, y = dtr vb := ⟨_, rfl⟩
  rw [← hy] at HB ⊢
  clear hy
  obtain ⟨x, hx⟩ : ∃ x, x = dtr va := ⟨_, rfl⟩
  rw [← hx] at HA ⊢
  clear hx
  cases x
  · rw [show ((false && y)) = false by first | rfl | (cases y <;> rfl)]
    go_enter Tryz.func31, Tryz.ntmps31
    go_wp2_with fail
    refine (HA.out _).mono ?_
    rintro e w1 ⟨rfl, hb⟩
    have hB : Below w.heap.size w w1 := Below.trans (by go_grown) (hb.mono (by simp))
    have h8 : w1.heap[w.heap.size]? = some (.cells #[.int .i64 0, .int .u64 0, .int .u64 0] 34) := (hb.block _ (by simp)).trans (heap_alloc_new w _)
    have H8 : Hid _ := h8
    clear hb h8
    go_wp2_with fail
    refine ((HBB false).out _).mono ?_
    rintro e w3 ⟨rfl, hb⟩
    have hB3 : Below w.heap.size w w3 := hB.trans (hb.mono hB.size)
    have h83 : w3.heap[w.heap.size]? = some (.cells #[.int .i64 0, .int .u64 0, .int .u64 0] 34) := (hb.block _ (Array.getElem?_eq_some_iff.1 H8.out).1).trans H8.out
    have r0 : w3.cell? ⟨w.heap.size, 0, none⟩ = some (.int .i64 0) := cell_of h83 0 rfl
    have r1 : w3.cell? ⟨w.heap.size, 1, none⟩ = some (.int .u64 0) := cell_of h83 1 rfl
    have r2 : w3.cell? ⟨w.heap.size, 2, none⟩ = some (.int .u64 0) := cell_of h83 2 rfl
    have rf : ∀ j, w3.frozen? ⟨w.heap.size, j, none⟩ = false := fun j => by simp [World.frozen?, h83]
    clear hb h83 H8 hB
    go_wp2_with fail
    refine bodyPost_ret (v := .agg #[.int .i64 0, .int .u64 (bT false).lo, .int .u64 0]) (by simp [results, Tryz.results31, go_sem, r0, r1, r2]) rfl ?_
    exact ⟨rfl, by go_grown⟩
  · rw [show ((true && y)) = y by first | rfl | (cases y <;> rfl)]
    go_enter Tryz.func31, Tryz.ntmps31
    go_wp2_with fail
    refine (HA.out _).mono ?_
    rintro e w1 ⟨rfl, hb⟩
    have hB : Below w.heap.size w w1 := Below.trans (by go_grown) (hb.mono (by simp))
    have h8 : w1.heap[w.heap.size]? = some (.cells #[.int .i64 0, .int .u64 0, .int .u64 0] 34) := (hb.block _ (by simp)).trans (heap_alloc_new w _)
    have H8 : Hid _ := h8
    clear hb h8
    have qvb0 : w1.cell? ⟨gb, o + 3, none⟩ = some (.int .i64 vb.w) := bel_cell hB hg vb0
    have qvb1 : w1.cell? ⟨gb, o + 4, none⟩ = some (.int .u64 vb.lo) := bel_cell hB hg vb1
    have qvb2 : w1.cell? ⟨gb, o + 5, none⟩ = some (.int .u64 vb.hi) := bel_cell hB hg vb2
    go_wp2_with fail
    refine (HB.out _).mono ?_
    rintro e w2 ⟨rfl, hb⟩
    have hB2 : Below w.heap.size w w2 := hB.trans (hb.mono hB.size)
    have h82 : w2.heap[w.heap.size]? = some (.cells #[.int .i64 0, .int .u64 0, .int .u64 0] 34) := (hb.block _ (Array.getElem?_eq_some_iff.1 H8.out).1).trans H8.out
    have H82 : Hid _ := h82
    clear hb h82 H8 hB qvb0 qvb1 qvb2
    go_wp2_with fail
    refine ((HBB y).out _).mono ?_
    rintro e w3 ⟨rfl, hb⟩
    have hB3 : Below w.heap.size w w3 := hB2.trans (hb.mono hB2.size)
    have h83 : w3.heap[w.heap.size]? = some (.cells #[.int .i64 0, .int .u64 0, .int .u64 0] 34) := (hb.block _ (Array.getElem?_eq_some_iff.1 H82.out).1).trans H82.out
    have r0 : w3.cell? ⟨w.heap.size, 0, none⟩ = some (.int .i64 0) := cell_of h83 0 rfl
    have r1 : w3.cell? ⟨w.heap.size, 1, none⟩ = some (.int .u64 0) := cell_of h83 1 rfl
    have r2 : w3.cell? ⟨w.heap.size, 2, none⟩ = some (.int .u64 0) := cell_of h83 2 rfl
    have rf : ∀ j, w3.frozen? ⟨w.heap.size, j, none⟩ = false := fun j => by simp [World.frozen?, h83]
    clear hb h83 H82 hB2
    go_wp2_with fail
    refine bodyPost_ret (v := .agg #[.int .i64 0, .int .u64 (bT y).lo, .int .u64 0]) (by simp [results, Tryz.results31, go_sem, r0, r1, r2]) rfl ?_
    exact ⟨rfl, by go_grown⟩

theorem dm_5 {w : World} {gb o cc : Nat} {va vb : Bt} {p q : Int} (h : Lb w gb o [va, vb]) (hg : gb < w.heap.size) :
    Rt 31 #[.int .i64 5, .int .i64 p, .int .i64 q, .slice (some ⟨gb, o, none⟩) 2 cc] w (.agg #[.int .i64 0, .int .u64 (bT (dtr va || dtr vb)).lo, .int .u64 0]) := by
  have va0 : w.cell? ⟨gb, o, none⟩ = some (.int .i64 va.w) := h 0 va rfl 0 _ rfl
  have va1 : w.cell? ⟨gb, o + 1, none⟩ = some (.int .u64 va.lo) := h 0 va rfl 1 _ rfl
  have va2 : w.cell? ⟨gb, o + 2, none⟩ = some (.int .u64 va.hi) := h 0 va rfl 2 _ rfl
  have vb0 : w.cell? ⟨gb, o + 3, none⟩ = some (.int .i64 vb.w) := h 1 vb rfl 0 _ rfl
  have vb1 : w.cell? ⟨gb, o + 4, none⟩ = some (.int .u64 vb.lo) := h 1 vb rfl 1 _ rfl
  have vb2 : w.cell? ⟨gb, o + 5, none⟩ = some (.int .u64 vb.hi) := h 1 vb rfl 2 _ rfl
  clear h
  have HBB : ∀ b, Hid (∀ wx, Rt 51 #[.bool b] wx (.agg #[.int .i64 0, .int .u64 (bT b).lo, .int .u64 0])) := fun b wx => dbool b wx
  have HA : Hid (∀ wx, Rt 52 #[.agg #[.int .i64 va.w, .int .u64 va.lo, .int .u64 va.hi]] wx (.bool (dtr va))) := fun wx => truth_any va wx
  have HB : Hid (∀ wx, Rt 52 #[.agg #[.int .i64 vb.w, .int .u64 vb.lo, .int .u64 vb.hi]] wx (.bool (dtr vb))) := fun wx => truth_any vb wx
  obtain ⟨y, hy⟩ : ∃ y, y = dtr vb := ⟨_, rfl⟩
  rw [← hy] at HB ⊢
  clear hy
  obtain ⟨x, hx⟩ : ∃ x, x = dtr va := ⟨_, rfl⟩
  rw [← hx] at HA ⊢
  clear hx
  cases x
  · rw [show ((false || y)) = y by first | rfl | (cases y <;> rfl)]
    go_enter Tryz.func31, Tryz.ntmps31
    go_wp2_with fail
    refine (HA.out _).mono ?_
    rintro e w1 ⟨rfl, hb⟩
    have hB : Below w.heap.size w w1 := Below.trans (by go_grown) (hb.mono (by simp))
    have h8 : w1.heap[w.heap.size]? = some (.cells #[.int .i64 0, .int .u64 0, .int .u64 0] 34) := (hb.block _ (by simp)).trans (heap_alloc_new w _)
    have H8 : Hid _ := h8
    clear hb h8
    have qvb0 : w1.cell? ⟨gb, o + 3, none⟩ = some (.int .i64 vb.w) := bel_cell hB hg vb0
    have qvb1 : w1.cell? ⟨gb, o + 4, none⟩ = some (.int .u64 vb.lo) := bel_cell hB hg vb1
    have qvb2 : w1.cell? ⟨gb, o + 5, none⟩ = some (.int .u64 vb.hi) := bel_cell hB hg vb2
    go_wp2_with fail
    refine (HB.out _).mono ?_
    rintro e w2 ⟨rfl, hb⟩
    have hB2 : Below w.heap.size w w2 := hB.trans (hb.mono hB.size)
    have h82 : w2.heap[w.heap.size]? = some (.cells #[.int .i64 0, .int .u64 0, .int .u64 0] 34) := (hb.block _ (Array.getElem?_eq_some_iff.1 H8.out).1).trans H8.out
    have H82 : Hid _ := h82
    clear hb h82 H8 hB qvb0 qvb1 qvb2
    go_wp2_with fail
    refine ((HBB y).out _).mono ?_
    rintro e w3 ⟨rfl, hb⟩
    have hB3 : Below w.heap.size w w3 := hB2.trans (hb.mono hB2.size)
    have h83 : w3.heap[w.heap.size]? = some (.cells #[.int .i64 0, .int .u64 0, .int .u64 0] 34) := (hb.block _ (Array.getElem?_eq_some_iff.1 H82.out).1).trans H82.out
    have r0 : w3.cell? ⟨w.heap.size, 0, none⟩ = some (.int .i64 0) := cell_of h83 0 rfl
    have r1 : w3.cell? ⟨w.heap.size, 1, none⟩ = some (.int .u64 0) := cell_of h83 1 rfl
    have r2 : w3.cell? ⟨w.heap.size, 2, none⟩ = some (.int .u64 0) := cell_of h83 2 rfl
    have rf : ∀ j, w3.frozen? ⟨w.heap.size, j, none⟩ = false := fun j => by simp [World.frozen?, h83]
    clear hb h83 H82 hB2
    go_wp2_with fail
    refine bodyPost_ret (v := .agg #[.int .i64 0, .int .u64 (bT y).lo, .int .u64 0]) (by simp [results, Tryz.results31, go_sem, r0, r1, r2]) rfl ?_
    exact ⟨rfl, by go_grown⟩
  · rw [show ((true || y)) = true by first | rfl | (cases y <;> rfl)]
    go_enter Tryz.func31, Tryz.ntmps31
    go_wp2_with fail
    refine (HA.out _).mono ?_
    rintro e w1 ⟨rfl, hb⟩
    have hB : Below w.heap.size w w1 := Below.trans (by go_grown) (hb.mono (by simp))
    have h8 : w1.heap[w.heap.size]? = some (.cells #[.int .i64 0, .int .u64 0, .int .u64 0] 34) := (hb.block _ (by simp)).trans (heap_alloc_new w _)
    have H8 : Hid _ := h8
    clear hb h8
    go_wp2_with fail
    refine ((HBB true).out _).mono ?_
    rintro e w3 ⟨rfl, hb⟩
    have hB3 : Below w.heap.size w w3 := hB.trans (hb.mono hB.size)
    have h83 : w3.heap[w.heap.size]? = some (.cells #[.int .i64 0, .int .u64 0, .int .u64 0] 34) := (hb.block _ (Array.getElem?_eq_some_iff.1 H8.out).1).trans H8.out
    have r0 : w3.cell? ⟨w.heap.size, 0, none⟩ = some (.int .i64 0) := cell_of h83 0 rfl
    have r1 : w3.cell? ⟨w.heap.size, 1, none⟩ = some (.int .u64 0) := cell_of h83 1 rfl
    have r2 : w3.cell? ⟨w.heap.size, 2, none⟩ = some (.int .u64 0) := cell_of h83 2 rfl
    have rf : ∀ j, w3.frozen? ⟨w.heap.size, j, none⟩ = false := fun j => by simp [World.frozen?, h83]
    clear hb h83 H8 hB
    go_wp2_with fail
    refine bodyPost_ret (v := .agg #[.int .i64 0, .int .u64 (bT true).lo, .int .u64 0]) (by simp [results, Tryz.results31, go_sem, r0, r1, r2]) rfl ?_
    exact ⟨rfl, by go_grown⟩

theorem dm_7 {w : World} {gb o cc : Nat} {va vb : Bt} {p q : Int} (h : Lb w gb o [va, vb]) (hg : gb < w.heap.size) :
    Rt 31 #[.int .i64 7, .int .i64 p, .int .i64 q, .slice (some ⟨gb, o, none⟩) 2 cc] w (.agg #[.int .i64 0, .int .u64 (bT (!dtr va || dtr vb)).lo, .int .u64 0]) := by
  have va0 : w.cell? ⟨gb, o, none⟩ = some (.int .i64 va.w) := h 0 va rfl 0 _ rfl
  have va1 : w.cell? ⟨gb, o + 1, none⟩ = some (.int .u64 va.lo) := h 0 va rfl 1 _ rfl
  have va2 : w.cell? ⟨gb, o + 2, none⟩ = some (.int .u64 va.hi) := h 0 va rfl 2 _ rfl
  have vb0 : w.cell? ⟨gb, o + 3, none⟩ = some (.int .i64 vb.w) := h 1 vb rfl 0 _ rfl
  have vb1 : w.cell? ⟨gb, o + 4, none⟩ = some (.int .u64 vb.lo) := h 1 vb rfl 1 _ rfl
  have vb2 : w.cell? ⟨gb, o + 5, none⟩ = some (.int .u64 vb.hi) := h 1 vb rfl 2 _ rfl
  clear h
  have HBB : ∀ b, Hid (∀ wx, Rt 51 #[.bool b] wx (.agg #[.int .i64 0, .int .u64 (bT b).lo, .int .u64 0])) := fun b wx => dbool b wx
  have HA : Hid (∀ wx, Rt 52 #[.agg #[.int .i64 va.w, .int .u64 va.lo, .int .u64 va.hi]] wx (.bool (dtr va))) := fun wx => truth_any va wx
  have HB : Hid (∀ wx, Rt 52 #[.agg #[.int .i64 vb.w, .int .u64 vb.lo, .int .u64 vb.hi]] wx (.bool (dtr vb))) := fun wx => truth_any vb wx
  obtain ⟨y, hy⟩ : ∃ y, y = dtr vb := ⟨_, rfl⟩
  rw [← hy] at HB ⊢
  clear hy
  obtain ⟨x, hx⟩ : ∃ x, x = dtr va := ⟨_, rfl⟩
  rw [← hx] at HA ⊢
  clear hx
  cases x
  · rw [show ((!false || y)) = true by first | rfl | (cases y <;> rfl)]
    go_enter Tryz.func31, Tryz.ntmps31
    go_wp2_with fail
    refine (HA.out _).mono ?_
    rintro e w1 ⟨rfl, hb⟩
    have hB : Below w.heap.size w w1 := Below.trans (by go_grown) (hb.mono (by simp))
    have h8 : w1.heap[w.heap.size]? = some (.cells #[.int .i64 0, .int .u64 0, .int .u64 0] 34) := (hb.block _ (by simp)).trans (heap_alloc_new w _)
    have H8 : Hid _ := h8
    clear hb h8
    go_wp2_with fail
    refine ((HBB true).out _).mono ?_
    rintro e w3 ⟨rfl, hb⟩
    have hB3 : Below w.heap.size w w3 := hB.trans (hb.mono hB.size)
    have h83 : w3.heap[w.heap.size]? = some (.cells #[.int .i64 0, .int .u64 0, .int .u64 0] 34) := (hb.block _ (Array.getElem?_eq_some_iff.1 H8.out).1).trans H8.out
    have r0 : w3.cell? ⟨w.heap.size, 0, none⟩ = some (.int .i64 0) := cell_of h83 0 rfl
    have r1 : w3.cell? ⟨w.heap.size, 1, none⟩ = some (.int .u64 0) := cell_of h83 1 rfl
    have r2 : w3.cell? ⟨w.heap.size, 2, none⟩ = some (.int .u64 0) := cell_of h83 2 rfl
    have rf : ∀ j, w3.frozen? ⟨w.heap.size, j, none⟩ = false := fun j => by simp [World.frozen?, h83]
    clear hb h83 H8 hB
    go_wp2_with fail
    refine bodyPost_ret (v := .agg #[.int .i64 0, .int .u64 (bT true).lo, .int .u64 0]) (by simp [results, Tryz.results31, go_sem, r0, r1, r2]) rfl ?_
    exact ⟨rfl, by go_grown⟩
  · rw [show ((!true || y)) = y by first | rfl | (cases y <;> rfl)]
    go_enter Tryz.func31, Tryz.ntmps31
    go_wp2_with fail
    refine (HA.out _).mono ?_
    rintro e w1 ⟨rfl, hb⟩
    have hB : Below w.heap.size w w1 := Below.trans (by go_grown) (hb.mono (by simp))
    have h8 : w1.heap[w.heap.size]? = some (.cells #[.int .i64 0, .int .u64 0, .int .u64 0] 34) := (hb.block _ (by simp)).trans (heap_alloc_new w _)
    have H8 : Hid _ := h8
    clear hb h8
    have qvb0 : w1.cell? ⟨gb, o + 3, none⟩ = some (.int .i64 vb.w) := bel_cell hB hg vb0
    have qvb1 : w1.cell? ⟨gb, o + 4, none⟩ = some (.int .u64 vb.lo) := bel_cell hB hg vb1
    have qvb2 : w1.cell? ⟨gb, o + 5, none⟩ = some (.int .u64 vb.hi) := bel_cell hB hg vb2
    go_wp2_with fail
    refine (HB.out _).mono ?_
    rintro e w2 ⟨rfl, hb⟩
    have hB2 : Below w.heap.size w w2 := hB.trans (hb.mono hB.size)
    have h82 : w2.heap[w.heap.size]? = some (.cells #[.int .i64 0, .int .u64 0, .int .u64 0] 34) := (hb.block _ (Array.getElem?_eq_some_iff.1 H8.out).1).trans H8.out
    have H82 : Hid _ := h82
    clear hb h82 H8 hB qvb0 qvb1 qvb2
    go_wp2_with fail
    refine ((HBB y).out _).mono ?_
    rintro e w3 ⟨rfl, hb⟩
    have hB3 : Below w.heap.size w w3 := hB2.trans (hb.mono hB2.size)
    have h83 : w3.heap[w.heap.size]? = some (.cells #[.int .i64 0, .int .u64 0, .int .u64 0] 34) := (hb.block _ (Array.getElem?_eq_some_iff.1 H82.out).1).trans H82.out
    have r0 : w3.cell? ⟨w.heap.size, 0, none⟩ = some (.int .i64 0) := cell_of h83 0 rfl
    have r1 : w3.cell? ⟨w.heap.size, 1, none⟩ = some (.int .u64 0) := cell_of h83 1 rfl
    have r2 : w3.cell? ⟨w.heap.size, 2, none⟩ = some (.int .u64 0) := cell_of h83 2 rfl
    have rf : ∀ j, w3.frozen? ⟨w.heap.size, j, none⟩ = false := fun j => by simp [World.frozen?, h83]
    clear hb h83 H82 hB2
    go_wp2_with fail
    refine bodyPost_ret (v := .agg #[.int .i64 0, .int .u64 (bT y).lo, .int .u64 0]) (by simp [results, Tryz.results31, go_sem, r0, r1, r2]) rfl ?_
    exact ⟨rfl, by go_grown⟩

theorem dm_9 {w : World} {gb o cc : Nat} {va vb vc : Bt} {p q : Int} (h : Lb w gb o [va, vb, vc]) (hg : gb < w.heap.size) :
    Rt 31 #[.int .i64 9, .int .i64 p, .int .i64 q, .slice (some ⟨gb, o, none⟩) 3 cc] w (.agg #[.int .i64 (if dtr va then vb else vc).w, .int .u64 (if dtr va then vb else vc).lo, .int .u64 (if dtr va then vb else vc).hi]) := by
  have va0 : w.cell? ⟨gb, o, none⟩ = some (.int .i64 va.w) := h 0 va rfl 0 _ rfl
  have va1 : w.cell? ⟨gb, o + 1, none⟩ = some (.int .u64 va.lo) := h 0 va rfl 1 _ rfl
  have va2 : w.cell? ⟨gb, o + 2, none⟩ = some (.int .u64 va.hi) := h 0 va rfl 2 _ rfl
  have vb0 : w.cell? ⟨gb, o + 3, none⟩ = some (.int .i64 vb.w) := h 1 vb rfl 0 _ rfl
  have vb1 : w.cell? ⟨gb, o + 4, none⟩ = some (.int .u64 vb.lo) := h 1 vb rfl 1 _ rfl
  have vb2 : w.cell? ⟨gb, o + 5, none⟩ = some (.int .u64 vb.hi) := h 1 vb rfl 2 _ rfl
  have vc0 : w.cell? ⟨gb, o + 6, none⟩ = some (.int .i64 vc.w) := h 2 vc rfl 0 _ rfl
  have vc1 : w.cell? ⟨gb, o + 7, none⟩ = some (.int .u64 vc.lo) := h 2 vc rfl 1 _ rfl
  have vc2 : w.cell? ⟨gb, o + 8, none⟩ = some (.int .u64 vc.hi) := h 2 vc rfl 2 _ rfl
  clear h
  have HA : Hid (∀ wx, Rt 52 #[.agg #[.int .i64 va.w, .int .u64 va.lo, .int .u64 va.hi]] wx (.bool (dtr va))) := fun wx => truth_any va wx
  obtain ⟨x, hx⟩ : ∃ x, x = dtr va := ⟨_, rfl⟩
  rw [← hx] at HA ⊢
  clear hx
  cases x
  · simp only [Bool.false_eq_true, if_false]
    go_enter Tryz.func31, Tryz.ntmps31
    go_wp2_with fail
    refine (HA.out _).mono ?_
    rintro e w1 ⟨rfl, hb⟩
    have hB : Below w.heap.size w w1 := Below.trans (by go_grown) (hb.mono (by simp))
    have h8 : w1.heap[w.heap.size]? = some (.cells #[.int .i64 0, .int .u64 0, .int .u64 0] 34) := (hb.block _ (by simp)).trans (heap_alloc_new w _)
    have H8 : Hid _ := h8
    clear hb h8
    have qvc0 : w1.cell? ⟨gb, o + 6, none⟩ = some (.int .i64 vc.w) := bel_cell hB hg vc0
    have qvc1 : w1.cell? ⟨gb, o + 7, none⟩ = some (.int .u64 vc.lo) := bel_cell hB hg vc1
    have qvc2 : w1.cell? ⟨gb, o + 8, none⟩ = some (.int .u64 vc.hi) := bel_cell hB hg vc2
    have h8 := H8.out
    have r0 : w1.cell? ⟨w.heap.size, 0, none⟩ = some (.int .i64 0) := cell_of h8 0 rfl
    have r1 : w1.cell? ⟨w.heap.size, 1, none⟩ = some (.int .u64 0) := cell_of h8 1 rfl
    have r2 : w1.cell? ⟨w.heap.size, 2, none⟩ = some (.int .u64 0) := cell_of h8 2 rfl
    have rf : ∀ j, w1.frozen? ⟨w.heap.size, j, none⟩ = false := fun j => by simp [World.frozen?, h8]
    clear h8 H8
    go_wp2_with fail
    refine bodyPost_ret (v := .agg #[.int .i64 vc.w, .int .u64 vc.lo, .int .u64 vc.hi]) (by simp [results, Tryz.results31, go_sem, r0, r1, r2]) rfl ?_
    exact ⟨rfl, by go_grown⟩
  · simp only [if_true]
    go_enter Tryz.func31, Tryz.ntmps31
    go_wp2_with fail
    refine (HA.out _).mono ?_
    rintro e w1 ⟨rfl, hb⟩
    have hB : Below w.heap.size w w1 := Below.trans (by go_grown) (hb.mono (by simp))
    have h8 : w1.heap[w.heap.size]? = some (.cells #[.int .i64 0, .int .u64 0, .int .u64 0] 34) := (hb.block _ (by simp)).trans (heap_alloc_new w _)
    have H8 : Hid _ := h8
    clear hb h8
    have qvb0 : w1.cell? ⟨gb, o + 3, none⟩ = some (.int .i64 vb.w) := bel_cell hB hg vb0
    have qvb1 : w1.cell? ⟨gb, o + 4, none⟩ = some (.int .u64 vb.lo) := bel_cell hB hg vb1
    have qvb2 : w1.cell? ⟨gb, o + 5, none⟩ = some (.int .u64 vb.hi) := bel_cell hB hg vb2
    have h8 := H8.out
    have r0 : w1.cell? ⟨w.heap.size, 0, none⟩ = some (.int .i64 0) := cell_of h8 0 rfl
    have r1 : w1.cell? ⟨w.heap.size, 1, none⟩ = some (.int .u64 0) := cell_of h8 1 rfl
    have r2 : w1.cell? ⟨w.heap.size, 2, none⟩ = some (.int .u64 0) := cell_of h8 2 rfl
    have rf : ∀ j, w1.frozen? ⟨w.heap.size, j, none⟩ = false := fun j => by simp [World.frozen?, h8]
    clear h8 H8
    go_wp2_with fail
    refine bodyPost_ret (v := .agg #[.int .i64 vb.w, .int .u64 vb.lo, .int .u64 vb.hi]) (by simp [results, Tryz.results31, go_sem, r0, r1, r2]) rfl ?_
    exact ⟨rfl, by go_grown⟩

theorem wide_le {s : Int} (h : s ≤ 128) (w : World) :
    Calls Tryz.prog 90 #[.int .i64 s] w fun e w' => e = .returned (.tuple #[.int .i64 s, .int .i64 0]) ∧ w' = w := by
  have h2 : ¬ 128 < s := by omega
  go_enter Tryz.func90, Tryz.ntmps90
  go_wp2_with fail
  refine bodyPost_ret (v := .tuple #[.int .i64 s, .int .i64 0]) (by simp [results, Tryz.results90, go_sem]) rfl ?_
  exact ⟨rfl, rfl⟩
theorem wide_gt {s : Int} (h : 128 < s) (w : World) :
    Calls Tryz.prog 90 #[.int .i64 s] w fun e w' => e = .returned (.tuple #[.int .i64 0, .int .i64 31]) ∧ w' = w := by
  go_enter Tryz.func90, Tryz.ntmps90
  go_wp2_with fail
  refine bodyPost_ret (v := .tuple #[.int .i64 0, .int .i64 31]) (by simp [results, Tryz.results90, go_sem]) rfl ?_
  exact ⟨rfl, rfl⟩
theorem wrap_eq64 (x : Int) : IntKind.i64.wrap x = wrap64 x := by rw [IntKind.wrap_i64]; unfold wrap64; rfl
/-- A width, or the error. -/
def wdF (s : Int) : Int × Int := if s ≤ 128 then (s, 0) else (0, 31)
theorem wide_any (s : Int) (w : World) :
    Calls Tryz.prog 90 #[.int .i64 s] w fun e w' => e = .returned (.tuple #[.int .i64 (wdF s).1, .int .i64 (wdF s).2]) ∧ w' = w := by
  by_cases h : s ≤ 128
  · rw [show wdF s = (s, 0) by unfold wdF; rw [if_pos h]]; exact wide_le h w
  · rw [show wdF s = (0, 31) by unfold wdF; rw [if_neg h]]; exact wide_gt (by omega) w

/-- The numbered operators' sort and error. -/
def nmF (op p q s : Int) : Int × Int :=
  if s = 0 then (0, 30) else if nft op p q s = false then (0, 30) else if op = 39 then (p - q + 1, 0) else if op = 40 ∨ op = 41 then (if 128 < p then (0, 31) else wdF (s + p)) else if op = 44 then (if 128 < p then (0, 31) else wdF (s * p)) else (s, 0)
theorem nm0_39 {p q s : Int} (hs : s = 0) (w : World) :
    Calls Tryz.prog 88 #[.int .i64 39, .int .i64 p, .int .i64 q, .int .i64 s] w fun e w' => e = .returned (.tuple #[.int .i64 0, .int .i64 30]) ∧ w' = w := by
  subst hs
  go_enter Tryz.func88, Tryz.ntmps88
  go_wp2_with fail
  refine bodyPost_ret (v := .tuple #[.int .i64 0, .int .i64 30]) (by simp [results, Tryz.results88, go_sem]) rfl ?_
  exact ⟨rfl, rfl⟩
theorem nm0_40 {p q s : Int} (hs : s = 0) (w : World) :
    Calls Tryz.prog 88 #[.int .i64 40, .int .i64 p, .int .i64 q, .int .i64 s] w fun e w' => e = .returned (.tuple #[.int .i64 0, .int .i64 30]) ∧ w' = w := by
  subst hs
  go_enter Tryz.func88, Tryz.ntmps88
  go_wp2_with fail
  refine bodyPost_ret (v := .tuple #[.int .i64 0, .int .i64 30]) (by simp [results, Tryz.results88, go_sem]) rfl ?_
  exact ⟨rfl, rfl⟩
theorem nm0_41 {p q s : Int} (hs : s = 0) (w : World) :
    Calls Tryz.prog 88 #[.int .i64 41, .int .i64 p, .int .i64 q, .int .i64 s] w fun e w' => e = .returned (.tuple #[.int .i64 0, .int .i64 30]) ∧ w' = w := by
  subst hs
  go_enter Tryz.func88, Tryz.ntmps88
  go_wp2_with fail
  refine bodyPost_ret (v := .tuple #[.int .i64 0, .int .i64 30]) (by simp [results, Tryz.results88, go_sem]) rfl ?_
  exact ⟨rfl, rfl⟩
theorem nm0_42 {p q s : Int} (hs : s = 0) (w : World) :
    Calls Tryz.prog 88 #[.int .i64 42, .int .i64 p, .int .i64 q, .int .i64 s] w fun e w' => e = .returned (.tuple #[.int .i64 0, .int .i64 30]) ∧ w' = w := by
  subst hs
  go_enter Tryz.func88, Tryz.ntmps88
  go_wp2_with fail
  refine bodyPost_ret (v := .tuple #[.int .i64 0, .int .i64 30]) (by simp [results, Tryz.results88, go_sem]) rfl ?_
  exact ⟨rfl, rfl⟩
theorem nm0_43 {p q s : Int} (hs : s = 0) (w : World) :
    Calls Tryz.prog 88 #[.int .i64 43, .int .i64 p, .int .i64 q, .int .i64 s] w fun e w' => e = .returned (.tuple #[.int .i64 0, .int .i64 30]) ∧ w' = w := by
  subst hs
  go_enter Tryz.func88, Tryz.ntmps88
  go_wp2_with fail
  refine bodyPost_ret (v := .tuple #[.int .i64 0, .int .i64 30]) (by simp [results, Tryz.results88, go_sem]) rfl ?_
  exact ⟨rfl, rfl⟩
theorem nm0_44 {p q s : Int} (hs : s = 0) (w : World) :
    Calls Tryz.prog 88 #[.int .i64 44, .int .i64 p, .int .i64 q, .int .i64 s] w fun e w' => e = .returned (.tuple #[.int .i64 0, .int .i64 30]) ∧ w' = w := by
  subst hs
  go_enter Tryz.func88, Tryz.ntmps88
  go_wp2_with fail
  refine bodyPost_ret (v := .tuple #[.int .i64 0, .int .i64 30]) (by simp [results, Tryz.results88, go_sem]) rfl ?_
  exact ⟨rfl, rfl⟩
theorem nm39_a {p q s : Int} (hs : ¬ s = 0) (h1 : q < 0) (w : World) :
    Calls Tryz.prog 88 #[.int .i64 39, .int .i64 p, .int .i64 q, .int .i64 s] w fun e w' => e = .returned (.tuple #[.int .i64 0, .int .i64 30]) ∧ w' = w := by
  have zs : (s == 0) = false := by simp [hs]
  go_enter Tryz.func88, Tryz.ntmps88
  go_wp2_with fail
  refine bodyPost_ret (v := .tuple #[.int .i64 0, .int .i64 30]) (by simp [results, Tryz.results88, go_sem]) rfl ?_
  exact ⟨rfl, rfl⟩
theorem nm39_b {p q s : Int} (hs : ¬ s = 0) (h1 : ¬ q < 0) (h2 : p < q) (w : World) :
    Calls Tryz.prog 88 #[.int .i64 39, .int .i64 p, .int .i64 q, .int .i64 s] w fun e w' => e = .returned (.tuple #[.int .i64 0, .int .i64 30]) ∧ w' = w := by
  have zs : (s == 0) = false := by simp [hs]
  go_enter Tryz.func88, Tryz.ntmps88
  go_wp2_with fail
  refine bodyPost_ret (v := .tuple #[.int .i64 0, .int .i64 30]) (by simp [results, Tryz.results88, go_sem]) rfl ?_
  exact ⟨rfl, rfl⟩
theorem nm39_c {p q s : Int} (hs : ¬ s = 0) (h1 : ¬ q < 0) (h2 : ¬ p < q) (h3 : s ≤ p) (w : World) :
    Calls Tryz.prog 88 #[.int .i64 39, .int .i64 p, .int .i64 q, .int .i64 s] w fun e w' => e = .returned (.tuple #[.int .i64 0, .int .i64 30]) ∧ w' = w := by
  have zs : (s == 0) = false := by simp [hs]
  go_enter Tryz.func88, Tryz.ntmps88
  go_wp2_with fail
  refine bodyPost_ret (v := .tuple #[.int .i64 0, .int .i64 30]) (by simp [results, Tryz.results88, go_sem]) rfl ?_
  exact ⟨rfl, rfl⟩
theorem nm39_d {p q s : Int} (hs : ¬ s = 0) (h1 : ¬ q < 0) (h2 : ¬ p < q) (h3 : ¬ s ≤ p) (h4 : s ≤ 128) (w : World) :
    Calls Tryz.prog 88 #[.int .i64 39, .int .i64 p, .int .i64 q, .int .i64 s] w fun e w' => e = .returned (.tuple #[.int .i64 (p - q + 1), .int .i64 0]) ∧ w' = w := by
  have zs : (s == 0) = false := by simp [hs]
  have e1 : IntKind.i64.wrap (p - q) = p - q := by rw [IntKind.wrap_i64]; omega
  have e2 : IntKind.i64.wrap (p - q + 1) = p - q + 1 := by rw [IntKind.wrap_i64]; omega
  go_enter Tryz.func88, Tryz.ntmps88
  go_wp2_with fail
  refine bodyPost_ret (v := .tuple #[.int .i64 (p - q + 1), .int .i64 0]) (by simp [results, Tryz.results88, go_sem]) rfl ?_
  exact ⟨rfl, rfl⟩
theorem nm40_a {p q s : Int} (hs : ¬ s = 0) (hq : ¬ q = 0) (w : World) :
    Calls Tryz.prog 88 #[.int .i64 40, .int .i64 p, .int .i64 q, .int .i64 s] w fun e w' => e = .returned (.tuple #[.int .i64 0, .int .i64 30]) ∧ w' = w := by
  have zs : (s == 0) = false := by simp [hs]
  have zq : (q == 0) = false := by simp [hq]
  have yq : (q != 0) = true := by simp [hq]
  clear hq
  go_enter Tryz.func88, Tryz.ntmps88
  go_wp2_with fail
  refine bodyPost_ret (v := .tuple #[.int .i64 0, .int .i64 30]) (by simp [results, Tryz.results88, go_sem]) rfl ?_
  exact ⟨rfl, rfl⟩
theorem nm40_b {p q s : Int} (hs : ¬ s = 0) (hq : q = 0) (h1 : p < 0) (w : World) :
    Calls Tryz.prog 88 #[.int .i64 40, .int .i64 p, .int .i64 q, .int .i64 s] w fun e w' => e = .returned (.tuple #[.int .i64 0, .int .i64 30]) ∧ w' = w := by
  have zs : (s == 0) = false := by simp [hs]
  have zq : (q == 0) = true := by simp [hq]
  have yq : (q != 0) = false := by simp [hq]
  clear hq
  go_enter Tryz.func88, Tryz.ntmps88
  go_wp2_with fail
  refine bodyPost_ret (v := .tuple #[.int .i64 0, .int .i64 30]) (by simp [results, Tryz.results88, go_sem]) rfl ?_
  exact ⟨rfl, rfl⟩
theorem nm41_a {p q s : Int} (hs : ¬ s = 0) (hq : ¬ q = 0) (w : World) :
    Calls Tryz.prog 88 #[.int .i64 41, .int .i64 p, .int .i64 q, .int .i64 s] w fun e w' => e = .returned (.tuple #[.int .i64 0, .int .i64 30]) ∧ w' = w := by
  have zs : (s == 0) = false := by simp [hs]
  have zq : (q == 0) = false := by simp [hq]
  have yq : (q != 0) = true := by simp [hq]
  clear hq
  go_enter Tryz.func88, Tryz.ntmps88
  go_wp2_with fail
  refine bodyPost_ret (v := .tuple #[.int .i64 0, .int .i64 30]) (by simp [results, Tryz.results88, go_sem]) rfl ?_
  exact ⟨rfl, rfl⟩
theorem nm41_b {p q s : Int} (hs : ¬ s = 0) (hq : q = 0) (h1 : p < 0) (w : World) :
    Calls Tryz.prog 88 #[.int .i64 41, .int .i64 p, .int .i64 q, .int .i64 s] w fun e w' => e = .returned (.tuple #[.int .i64 0, .int .i64 30]) ∧ w' = w := by
  have zs : (s == 0) = false := by simp [hs]
  have zq : (q == 0) = true := by simp [hq]
  have yq : (q != 0) = false := by simp [hq]
  clear hq
  go_enter Tryz.func88, Tryz.ntmps88
  go_wp2_with fail
  refine bodyPost_ret (v := .tuple #[.int .i64 0, .int .i64 30]) (by simp [results, Tryz.results88, go_sem]) rfl ?_
  exact ⟨rfl, rfl⟩
theorem nm42_a {p q s : Int} (hs : ¬ s = 0) (hq : ¬ q = 0) (w : World) :
    Calls Tryz.prog 88 #[.int .i64 42, .int .i64 p, .int .i64 q, .int .i64 s] w fun e w' => e = .returned (.tuple #[.int .i64 0, .int .i64 30]) ∧ w' = w := by
  have zs : (s == 0) = false := by simp [hs]
  have zq : (q == 0) = false := by simp [hq]
  have yq : (q != 0) = true := by simp [hq]
  clear hq
  go_enter Tryz.func88, Tryz.ntmps88
  go_wp2_with fail
  refine bodyPost_ret (v := .tuple #[.int .i64 0, .int .i64 30]) (by simp [results, Tryz.results88, go_sem]) rfl ?_
  exact ⟨rfl, rfl⟩
theorem nm42_b {p q s : Int} (hs : ¬ s = 0) (hq : q = 0) (h1 : p < 0) (w : World) :
    Calls Tryz.prog 88 #[.int .i64 42, .int .i64 p, .int .i64 q, .int .i64 s] w fun e w' => e = .returned (.tuple #[.int .i64 0, .int .i64 30]) ∧ w' = w := by
  have zs : (s == 0) = false := by simp [hs]
  have zq : (q == 0) = true := by simp [hq]
  have yq : (q != 0) = false := by simp [hq]
  clear hq
  go_enter Tryz.func88, Tryz.ntmps88
  go_wp2_with fail
  refine bodyPost_ret (v := .tuple #[.int .i64 0, .int .i64 30]) (by simp [results, Tryz.results88, go_sem]) rfl ?_
  exact ⟨rfl, rfl⟩
theorem nm43_a {p q s : Int} (hs : ¬ s = 0) (hq : ¬ q = 0) (w : World) :
    Calls Tryz.prog 88 #[.int .i64 43, .int .i64 p, .int .i64 q, .int .i64 s] w fun e w' => e = .returned (.tuple #[.int .i64 0, .int .i64 30]) ∧ w' = w := by
  have zs : (s == 0) = false := by simp [hs]
  have zq : (q == 0) = false := by simp [hq]
  have yq : (q != 0) = true := by simp [hq]
  clear hq
  go_enter Tryz.func88, Tryz.ntmps88
  go_wp2_with fail
  refine bodyPost_ret (v := .tuple #[.int .i64 0, .int .i64 30]) (by simp [results, Tryz.results88, go_sem]) rfl ?_
  exact ⟨rfl, rfl⟩
theorem nm43_b {p q s : Int} (hs : ¬ s = 0) (hq : q = 0) (h1 : p < 0) (w : World) :
    Calls Tryz.prog 88 #[.int .i64 43, .int .i64 p, .int .i64 q, .int .i64 s] w fun e w' => e = .returned (.tuple #[.int .i64 0, .int .i64 30]) ∧ w' = w := by
  have zs : (s == 0) = false := by simp [hs]
  have zq : (q == 0) = true := by simp [hq]
  have yq : (q != 0) = false := by simp [hq]
  clear hq
  go_enter Tryz.func88, Tryz.ntmps88
  go_wp2_with fail
  refine bodyPost_ret (v := .tuple #[.int .i64 0, .int .i64 30]) (by simp [results, Tryz.results88, go_sem]) rfl ?_
  exact ⟨rfl, rfl⟩
theorem nm44_a {p q s : Int} (hs : ¬ s = 0) (hq : ¬ q = 0) (w : World) :
    Calls Tryz.prog 88 #[.int .i64 44, .int .i64 p, .int .i64 q, .int .i64 s] w fun e w' => e = .returned (.tuple #[.int .i64 0, .int .i64 30]) ∧ w' = w := by
  have zs : (s == 0) = false := by simp [hs]
  have zq : (q == 0) = false := by simp [hq]
  have yq : (q != 0) = true := by simp [hq]
  clear hq
  go_enter Tryz.func88, Tryz.ntmps88
  go_wp2_with fail
  refine bodyPost_ret (v := .tuple #[.int .i64 0, .int .i64 30]) (by simp [results, Tryz.results88, go_sem]) rfl ?_
  exact ⟨rfl, rfl⟩
theorem nm44_b {p q s : Int} (hs : ¬ s = 0) (hq : q = 0) (h1 : p < 0) (w : World) :
    Calls Tryz.prog 88 #[.int .i64 44, .int .i64 p, .int .i64 q, .int .i64 s] w fun e w' => e = .returned (.tuple #[.int .i64 0, .int .i64 30]) ∧ w' = w := by
  have zs : (s == 0) = false := by simp [hs]
  have zq : (q == 0) = true := by simp [hq]
  have yq : (q != 0) = false := by simp [hq]
  clear hq
  go_enter Tryz.func88, Tryz.ntmps88
  go_wp2_with fail
  refine bodyPost_ret (v := .tuple #[.int .i64 0, .int .i64 30]) (by simp [results, Tryz.results88, go_sem]) rfl ?_
  exact ⟨rfl, rfl⟩
theorem nm44_c {p q s : Int} (hs : ¬ s = 0) (hq : q = 0) (h1 : ¬ p < 0) (h2 : p < 1) (w : World) :
    Calls Tryz.prog 88 #[.int .i64 44, .int .i64 p, .int .i64 q, .int .i64 s] w fun e w' => e = .returned (.tuple #[.int .i64 0, .int .i64 30]) ∧ w' = w := by
  have zs : (s == 0) = false := by simp [hs]
  have zq : (q == 0) = true := by simp [hq]
  have yq : (q != 0) = false := by simp [hq]
  clear hq
  go_enter Tryz.func88, Tryz.ntmps88
  go_wp2_with fail
  refine bodyPost_ret (v := .tuple #[.int .i64 0, .int .i64 30]) (by simp [results, Tryz.results88, go_sem]) rfl ?_
  exact ⟨rfl, rfl⟩
theorem nm42_d {p q s : Int} (hs : ¬ s = 0) (hq : q = 0) (h1 : ¬ p < 0) (w : World) :
    Calls Tryz.prog 88 #[.int .i64 42, .int .i64 p, .int .i64 q, .int .i64 s] w fun e w' => e = .returned (.tuple #[.int .i64 s, .int .i64 0]) ∧ w' = w := by
  have zs : (s == 0) = false := by simp [hs]
  have zq : (q == 0) = true := by simp [hq]
  have yq : (q != 0) = false := by simp [hq]
  clear hq
  go_enter Tryz.func88, Tryz.ntmps88
  go_wp2_with fail
  refine bodyPost_ret (v := .tuple #[.int .i64 s, .int .i64 0]) (by simp [results, Tryz.results88, go_sem]) rfl ?_
  exact ⟨rfl, rfl⟩
theorem nm43_d {p q s : Int} (hs : ¬ s = 0) (hq : q = 0) (h1 : ¬ p < 0) (w : World) :
    Calls Tryz.prog 88 #[.int .i64 43, .int .i64 p, .int .i64 q, .int .i64 s] w fun e w' => e = .returned (.tuple #[.int .i64 s, .int .i64 0]) ∧ w' = w := by
  have zs : (s == 0) = false := by simp [hs]
  have zq : (q == 0) = true := by simp [hq]
  have yq : (q != 0) = false := by simp [hq]
  clear hq
  go_enter Tryz.func88, Tryz.ntmps88
  go_wp2_with fail
  refine bodyPost_ret (v := .tuple #[.int .i64 s, .int .i64 0]) (by simp [results, Tryz.results88, go_sem]) rfl ?_
  exact ⟨rfl, rfl⟩
theorem nm40_e {p q s : Int} (hs : ¬ s = 0) (hq : q = 0) (h1 : ¬ p < 0) (h3 : 128 < p) (w : World) :
    Calls Tryz.prog 88 #[.int .i64 40, .int .i64 p, .int .i64 q, .int .i64 s] w fun e w' => e = .returned (.tuple #[.int .i64 0, .int .i64 31]) ∧ w' = w := by
  have zs : (s == 0) = false := by simp [hs]
  have zq : (q == 0) = true := by simp [hq]
  have yq : (q != 0) = false := by simp [hq]
  clear hq
  go_enter Tryz.func88, Tryz.ntmps88
  go_wp2_with fail
  refine bodyPost_ret (v := .tuple #[.int .i64 0, .int .i64 31]) (by simp [results, Tryz.results88, go_sem]) rfl ?_
  exact ⟨rfl, rfl⟩
theorem nm40_f {p q s : Int} (hs : ¬ s = 0) (hq : q = 0) (h1 : ¬ p < 0) (h3 : ¬ 128 < p) (s0 : 0 ≤ s) (s1 : s ≤ 128) (w : World) :
    Calls Tryz.prog 88 #[.int .i64 40, .int .i64 p, .int .i64 q, .int .i64 s] w fun e w' => e = .returned (.tuple #[.int .i64 (wdF (s + p)).1, .int .i64 (wdF (s + p)).2]) ∧ w' = w := by
  have zs : (s == 0) = false := by simp [hs]
  have zq : (q == 0) = true := by simp [hq]
  have yq : (q != 0) = false := by simp [hq]
  clear hq
  have e1 : IntKind.i64.wrap (s + p) = s + p := by rw [IntKind.wrap_i64]; omega
  have e2 : wrap64 (s + p) = s + p := by rw [← wrap_eq64]; exact e1
  obtain ⟨E, hE⟩ : ∃ E, E = wdF (s + p) := ⟨_, rfl⟩
  have HW : Hid (∀ wx, Calls Tryz.prog 90 #[.int .i64 (s + p)] wx fun e w' => e = .returned (.tuple #[.int .i64 E.1, .int .i64 E.2]) ∧ w' = wx) := fun wx => by rw [hE]; exact wide_any _ wx
  rw [← hE]
  clear hE
  go_enter Tryz.func88, Tryz.ntmps88
  go_wp2_with fail
  refine (HW.out _).mono ?_
  rintro e wz ⟨rfl, hq⟩
  rw [hq]
  clear hq wz
  go_wp2_with fail
  refine bodyPost_ret (v := .tuple #[.int .i64 E.1, .int .i64 E.2]) (by simp [results, Tryz.results88, go_sem]) rfl ?_
  exact ⟨rfl, rfl⟩
theorem nm41_e {p q s : Int} (hs : ¬ s = 0) (hq : q = 0) (h1 : ¬ p < 0) (h3 : 128 < p) (w : World) :
    Calls Tryz.prog 88 #[.int .i64 41, .int .i64 p, .int .i64 q, .int .i64 s] w fun e w' => e = .returned (.tuple #[.int .i64 0, .int .i64 31]) ∧ w' = w := by
  have zs : (s == 0) = false := by simp [hs]
  have zq : (q == 0) = true := by simp [hq]
  have yq : (q != 0) = false := by simp [hq]
  clear hq
  go_enter Tryz.func88, Tryz.ntmps88
  go_wp2_with fail
  refine bodyPost_ret (v := .tuple #[.int .i64 0, .int .i64 31]) (by simp [results, Tryz.results88, go_sem]) rfl ?_
  exact ⟨rfl, rfl⟩
theorem nm41_f {p q s : Int} (hs : ¬ s = 0) (hq : q = 0) (h1 : ¬ p < 0) (h3 : ¬ 128 < p) (s0 : 0 ≤ s) (s1 : s ≤ 128) (w : World) :
    Calls Tryz.prog 88 #[.int .i64 41, .int .i64 p, .int .i64 q, .int .i64 s] w fun e w' => e = .returned (.tuple #[.int .i64 (wdF (s + p)).1, .int .i64 (wdF (s + p)).2]) ∧ w' = w := by
  have zs : (s == 0) = false := by simp [hs]
  have zq : (q == 0) = true := by simp [hq]
  have yq : (q != 0) = false := by simp [hq]
  clear hq
  have e1 : IntKind.i64.wrap (s + p) = s + p := by rw [IntKind.wrap_i64]; omega
  have e2 : wrap64 (s + p) = s + p := by rw [← wrap_eq64]; exact e1
  obtain ⟨E, hE⟩ : ∃ E, E = wdF (s + p) := ⟨_, rfl⟩
  have HW : Hid (∀ wx, Calls Tryz.prog 90 #[.int .i64 (s + p)] wx fun e w' => e = .returned (.tuple #[.int .i64 E.1, .int .i64 E.2]) ∧ w' = wx) := fun wx => by rw [hE]; exact wide_any _ wx
  rw [← hE]
  clear hE
  go_enter Tryz.func88, Tryz.ntmps88
  go_wp2_with fail
  refine (HW.out _).mono ?_
  rintro e wz ⟨rfl, hq⟩
  rw [hq]
  clear hq wz
  go_wp2_with fail
  refine bodyPost_ret (v := .tuple #[.int .i64 E.1, .int .i64 E.2]) (by simp [results, Tryz.results88, go_sem]) rfl ?_
  exact ⟨rfl, rfl⟩
theorem nm44_e {p q s : Int} (hs : ¬ s = 0) (hq : q = 0) (h1 : ¬ p < 0) (h2 : ¬ p < 1) (h3 : 128 < p) (w : World) :
    Calls Tryz.prog 88 #[.int .i64 44, .int .i64 p, .int .i64 q, .int .i64 s] w fun e w' => e = .returned (.tuple #[.int .i64 0, .int .i64 31]) ∧ w' = w := by
  have zs : (s == 0) = false := by simp [hs]
  have zq : (q == 0) = true := by simp [hq]
  have yq : (q != 0) = false := by simp [hq]
  clear hq
  go_enter Tryz.func88, Tryz.ntmps88
  go_wp2_with fail
  refine bodyPost_ret (v := .tuple #[.int .i64 0, .int .i64 31]) (by simp [results, Tryz.results88, go_sem]) rfl ?_
  exact ⟨rfl, rfl⟩
theorem nm44_f {p q s : Int} (hs : ¬ s = 0) (hq : q = 0) (h1 : ¬ p < 0) (h2 : ¬ p < 1) (h3 : ¬ 128 < p) (s0 : 0 ≤ s) (s1 : s ≤ 128) (w : World) :
    Calls Tryz.prog 88 #[.int .i64 44, .int .i64 p, .int .i64 q, .int .i64 s] w fun e w' => e = .returned (.tuple #[.int .i64 (wdF (s * p)).1, .int .i64 (wdF (s * p)).2]) ∧ w' = w := by
  have zs : (s == 0) = false := by simp [hs]
  have zq : (q == 0) = true := by simp [hq]
  have yq : (q != 0) = false := by simp [hq]
  clear hq
  have e1 : IntKind.i64.wrap (s * p) = s * p := by rw [IntKind.wrap_i64]; have hh1 : s * p ≤ 128 * 128 := Int.mul_le_mul s1 (by omega) (by omega) (by decide); have hh2 : 0 ≤ s * p := Int.mul_nonneg s0 (by omega); omega
  have e2 : wrap64 (s * p) = s * p := by rw [← wrap_eq64]; exact e1
  obtain ⟨E, hE⟩ : ∃ E, E = wdF (s * p) := ⟨_, rfl⟩
  have HW : Hid (∀ wx, Calls Tryz.prog 90 #[.int .i64 (s * p)] wx fun e w' => e = .returned (.tuple #[.int .i64 E.1, .int .i64 E.2]) ∧ w' = wx) := fun wx => by rw [hE]; exact wide_any _ wx
  rw [← hE]
  clear hE
  go_enter Tryz.func88, Tryz.ntmps88
  go_wp2_with fail
  refine (HW.out _).mono ?_
  rintro e wz ⟨rfl, hq⟩
  rw [hq]
  clear hq wz
  go_wp2_with fail
  refine bodyPost_ret (v := .tuple #[.int .i64 E.1, .int .i64 E.2]) (by simp [results, Tryz.results88, go_sem]) rfl ?_
  exact ⟨rfl, rfl⟩
theorem numbered_any {op p q s : Int} (ho : 39 ≤ op) (ho2 : op ≤ 44) (s0 : 0 ≤ s) (s1 : s ≤ 128) (w : World) :
    Calls Tryz.prog 88 #[.int .i64 op, .int .i64 p, .int .i64 q, .int .i64 s] w fun e w' => e = .returned (.tuple #[.int .i64 (nmF op p q s).1, .int .i64 (nmF op p q s).2]) ∧ w' = w := by
  have hx : op = 39 ∨ op = 40 ∨ op = 41 ∨ op = 42 ∨ op = 43 ∨ op = 44 := by omega
  by_cases hs : s = 0
  · have e : nmF op p q s = (0, 30) := by unfold nmF; rw [if_pos hs]
    rw [e]
    rcases hx with rfl | rfl | rfl | rfl | rfl | rfl
    · exact nm0_39 hs w
    · exact nm0_40 hs w
    · exact nm0_41 hs w
    · exact nm0_42 hs w
    · exact nm0_43 hs w
    · exact nm0_44 hs w
  · rcases hx with rfl | rfl | rfl | rfl | rfl | rfl
    · by_cases h1 : q < 0
      · rw [show nmF 39 p q s = (0, 30) by simp [nmF, hs, nft]; omega]; exact nm39_a hs h1 w
      · by_cases h2 : p < q
        · rw [show nmF 39 p q s = (0, 30) by simp [nmF, hs, nft]; omega]; exact nm39_b hs h1 h2 w
        · by_cases h3 : s ≤ p
          · rw [show nmF 39 p q s = (0, 30) by simp [nmF, hs, nft]; omega]; exact nm39_c hs h1 h2 h3 w
          · rw [show nmF 39 p q s = (p - q + 1, 0) by simp [nmF, hs, nft]; omega]; exact nm39_d hs h1 h2 h3 s1 w
    · by_cases hq : q = 0
      · by_cases h1 : p < 0
        · rw [show nmF 40 p q s = (0, 30) by simp [nmF, hs, nft]; omega]; exact nm40_b hs hq h1 w
        · by_cases h3 : 128 < p
          · rw [show nmF 40 p q s = (0, 31) by simp [nmF, hs, nft, h3, hq]; omega]; exact nm40_e hs hq h1 h3 w
          · rw [show nmF 40 p q s = wdF (s + p) by simp [nmF, hs, nft, h3, hq]; omega]; exact nm40_f hs hq h1 h3 s0 s1 w
      · rw [show nmF 40 p q s = (0, 30) by simp [nmF, hs, nft, hq]]; exact nm40_a hs hq w
    · by_cases hq : q = 0
      · by_cases h1 : p < 0
        · rw [show nmF 41 p q s = (0, 30) by simp [nmF, hs, nft]; omega]; exact nm41_b hs hq h1 w
        · by_cases h3 : 128 < p
          · rw [show nmF 41 p q s = (0, 31) by simp [nmF, hs, nft, h3, hq]; omega]; exact nm41_e hs hq h1 h3 w
          · rw [show nmF 41 p q s = wdF (s + p) by simp [nmF, hs, nft, h3, hq]; omega]; exact nm41_f hs hq h1 h3 s0 s1 w
      · rw [show nmF 41 p q s = (0, 30) by simp [nmF, hs, nft, hq]]; exact nm41_a hs hq w
    · by_cases hq : q = 0
      · by_cases h1 : p < 0
        · rw [show nmF 42 p q s = (0, 30) by simp [nmF, hs, nft]; omega]; exact nm42_b hs hq h1 w
        · rw [show nmF 42 p q s = (s, 0) by simp [nmF, hs, nft, hq]; omega]; exact nm42_d hs hq h1 w
      · rw [show nmF 42 p q s = (0, 30) by simp [nmF, hs, nft, hq]]; exact nm42_a hs hq w
    · by_cases hq : q = 0
      · by_cases h1 : p < 0
        · rw [show nmF 43 p q s = (0, 30) by simp [nmF, hs, nft]; omega]; exact nm43_b hs hq h1 w
        · rw [show nmF 43 p q s = (s, 0) by simp [nmF, hs, nft, hq]; omega]; exact nm43_d hs hq h1 w
      · rw [show nmF 43 p q s = (0, 30) by simp [nmF, hs, nft, hq]]; exact nm43_a hs hq w
    · by_cases hq : q = 0
      · by_cases h1 : p < 0
        · rw [show nmF 44 p q s = (0, 30) by simp [nmF, hs, nft]; omega]; exact nm44_b hs hq h1 w
        · by_cases h2 : p < 1
          · rw [show nmF 44 p q s = (0, 30) by simp [nmF, hs, nft]; omega]; exact nm44_c hs hq h1 h2 w
          · by_cases h3 : 128 < p
            · rw [show nmF 44 p q s = (0, 31) by simp [nmF, hs, nft, h3, hq]; omega]; exact nm44_e hs hq h1 h2 h3 w
            · rw [show nmF 44 p q s = wdF (s * p) by simp [nmF, hs, nft, h3, hq]; omega]; exact nm44_f hs hq h1 h2 h3 s0 s1 w
      · rw [show nmF 44 p q s = (0, 30) by simp [nmF, hs, nft, hq]]; exact nm44_a hs hq w
end Go.Proofs.YtnflphhckgeneaaGreat
