/- Contracts (the document): what operators mean: words. (Made by a script.) -/
import Derived.Test.YtnflphhckgeneaaGreatEA11
namespace Go.Proofs.YtnflphhckgeneaaGreat
set_option maxHeartbeats 12800000
set_option maxRecDepth 100000
open Go.RowKit
set_option linter.unusedSimpArgs false
set_option linter.unusedVariables false

theorem dm_10 {w : World} {gb o cc : Nat} {va r : Bt} {p q er : Int} (h : Lb w gb o [va]) (hg : gb < w.heap.size)
    (HT : Hid (∀ wx, Rt 53 #[.int .i64 10, .agg #[.int .i64 va.w, .int .u64 va.lo, .int .u64 va.hi]] wx (.tuple #[.agg #[.int .i64 r.w, .int .u64 r.lo, .int .u64 r.hi], .int .i64 er]))) :
    Rt 31 #[.int .i64 10, .int .i64 p, .int .i64 q, .slice (some ⟨gb, o, none⟩) 1 cc] w (.agg #[.int .i64 r.w, .int .u64 r.lo, .int .u64 r.hi]) := by
  have va0 : w.cell? ⟨gb, o, none⟩ = some (.int .i64 va.w) := h 0 va rfl 0 _ rfl
  have va1 : w.cell? ⟨gb, o + 1, none⟩ = some (.int .u64 va.lo) := h 0 va rfl 1 _ rfl
  have va2 : w.cell? ⟨gb, o + 2, none⟩ = some (.int .u64 va.hi) := h 0 va rfl 2 _ rfl
  clear h
  go_enter Tryz.func31, Tryz.ntmps31
  go_wp2_with fail
  refine (HT.out _).mono ?_
  rintro e w1 ⟨rfl, hb⟩
  have hB : Below w.heap.size w w1 := Below.trans (by go_grown) (hb.mono (by simp; omega))
  have h8 : w1.heap[w.heap.size]? = some (.cells #[.int .i64 0, .int .u64 0, .int .u64 0] 34) := (hb.block _ (by simp; omega)).trans ((heap_alloc_old _ _ (by simp)).trans (heap_alloc_new w _))
  have h9 : w1.heap[w.heap.size + 1]? = some (.cells #[.int .i64 0, .int .u64 0, .int .u64 0] 34) := (hb.block _ (by simp)).trans (by have hn := heap_alloc_new (w.alloc (.cells #[.int .i64 0, .int .u64 0, .int .u64 0] 34)) (.cells #[.int .i64 0, .int .u64 0, .int .u64 0] 34); rw [size_alloc'] at hn; exact hn)
  have r0 : w1.cell? ⟨w.heap.size, 0, none⟩ = some (.int .i64 0) := cell_of h8 0 rfl
  have r1 : w1.cell? ⟨w.heap.size, 1, none⟩ = some (.int .u64 0) := cell_of h8 1 rfl
  have r2 : w1.cell? ⟨w.heap.size, 2, none⟩ = some (.int .u64 0) := cell_of h8 2 rfl
  have rf : ∀ j, w1.frozen? ⟨w.heap.size, j, none⟩ = false := fun j => by simp [World.frozen?, h8]
  have s0 : w1.cell? ⟨w.heap.size + 1, 0, none⟩ = some (.int .i64 0) := cell_of h9 0 rfl
  have s1 : w1.cell? ⟨w.heap.size + 1, 1, none⟩ = some (.int .u64 0) := cell_of h9 1 rfl
  have s2 : w1.cell? ⟨w.heap.size + 1, 2, none⟩ = some (.int .u64 0) := cell_of h9 2 rfl
  have sf : ∀ j, w1.frozen? ⟨w.heap.size + 1, j, none⟩ = false := fun j => by simp [World.frozen?, h9]
  have hs1 : w.heap.size + 1 < w1.heap.size := by have := hb.size; simp at this; omega
  clear hb h8 h9
  go_wp2_with fail
  refine bodyPost_ret (v := .agg #[.int .i64 r.w, .int .u64 r.lo, .int .u64 r.hi]) (by simp [results, Tryz.results31, go_sem, r0, r1, r2, s0, s1, s2, hs1]) rfl ?_
  exact ⟨rfl, by go_grown⟩

theorem dm_11 {w : World} {gb o cc : Nat} {va r : Bt} {p q er : Int} (h : Lb w gb o [va]) (hg : gb < w.heap.size)
    (HT : Hid (∀ wx, Rt 53 #[.int .i64 11, .agg #[.int .i64 va.w, .int .u64 va.lo, .int .u64 va.hi]] wx (.tuple #[.agg #[.int .i64 r.w, .int .u64 r.lo, .int .u64 r.hi], .int .i64 er]))) :
    Rt 31 #[.int .i64 11, .int .i64 p, .int .i64 q, .slice (some ⟨gb, o, none⟩) 1 cc] w (.agg #[.int .i64 r.w, .int .u64 r.lo, .int .u64 r.hi]) := by
  have va0 : w.cell? ⟨gb, o, none⟩ = some (.int .i64 va.w) := h 0 va rfl 0 _ rfl
  have va1 : w.cell? ⟨gb, o + 1, none⟩ = some (.int .u64 va.lo) := h 0 va rfl 1 _ rfl
  have va2 : w.cell? ⟨gb, o + 2, none⟩ = some (.int .u64 va.hi) := h 0 va rfl 2 _ rfl
  clear h
  go_enter Tryz.func31, Tryz.ntmps31
  go_wp2_with fail
  refine (HT.out _).mono ?_
  rintro e w1 ⟨rfl, hb⟩
  have hB : Below w.heap.size w w1 := Below.trans (by go_grown) (hb.mono (by simp; omega))
  have h8 : w1.heap[w.heap.size]? = some (.cells #[.int .i64 0, .int .u64 0, .int .u64 0] 34) := (hb.block _ (by simp; omega)).trans ((heap_alloc_old _ _ (by simp)).trans (heap_alloc_new w _))
  have h9 : w1.heap[w.heap.size + 1]? = some (.cells #[.int .i64 0, .int .u64 0, .int .u64 0] 34) := (hb.block _ (by simp)).trans (by have hn := heap_alloc_new (w.alloc (.cells #[.int .i64 0, .int .u64 0, .int .u64 0] 34)) (.cells #[.int .i64 0, .int .u64 0, .int .u64 0] 34); rw [size_alloc'] at hn; exact hn)
  have r0 : w1.cell? ⟨w.heap.size, 0, none⟩ = some (.int .i64 0) := cell_of h8 0 rfl
  have r1 : w1.cell? ⟨w.heap.size, 1, none⟩ = some (.int .u64 0) := cell_of h8 1 rfl
  have r2 : w1.cell? ⟨w.heap.size, 2, none⟩ = some (.int .u64 0) := cell_of h8 2 rfl
  have rf : ∀ j, w1.frozen? ⟨w.heap.size, j, none⟩ = false := fun j => by simp [World.frozen?, h8]
  have s0 : w1.cell? ⟨w.heap.size + 1, 0, none⟩ = some (.int .i64 0) := cell_of h9 0 rfl
  have s1 : w1.cell? ⟨w.heap.size + 1, 1, none⟩ = some (.int .u64 0) := cell_of h9 1 rfl
  have s2 : w1.cell? ⟨w.heap.size + 1, 2, none⟩ = some (.int .u64 0) := cell_of h9 2 rfl
  have sf : ∀ j, w1.frozen? ⟨w.heap.size + 1, j, none⟩ = false := fun j => by simp [World.frozen?, h9]
  have hs1 : w.heap.size + 1 < w1.heap.size := by have := hb.size; simp at this; omega
  clear hb h8 h9
  go_wp2_with fail
  refine bodyPost_ret (v := .agg #[.int .i64 r.w, .int .u64 r.lo, .int .u64 r.hi]) (by simp [results, Tryz.results31, go_sem, r0, r1, r2, s0, s1, s2, hs1]) rfl ?_
  exact ⟨rfl, by go_grown⟩

theorem dm_39 {w : World} {gb o cc : Nat} {va r : Bt} {p q er : Int} (h : Lb w gb o [va]) (hg : gb < w.heap.size)
    (HT : Hid (∀ wx, Rt 55 #[.agg #[.int .i64 va.w, .int .u64 va.lo, .int .u64 va.hi], .int .i64 p, .int .i64 q] wx (.tuple #[.agg #[.int .i64 r.w, .int .u64 r.lo, .int .u64 r.hi], .int .i64 er]))) :
    Rt 31 #[.int .i64 39, .int .i64 p, .int .i64 q, .slice (some ⟨gb, o, none⟩) 1 cc] w (.agg #[.int .i64 r.w, .int .u64 r.lo, .int .u64 r.hi]) := by
  have va0 : w.cell? ⟨gb, o, none⟩ = some (.int .i64 va.w) := h 0 va rfl 0 _ rfl
  have va1 : w.cell? ⟨gb, o + 1, none⟩ = some (.int .u64 va.lo) := h 0 va rfl 1 _ rfl
  have va2 : w.cell? ⟨gb, o + 2, none⟩ = some (.int .u64 va.hi) := h 0 va rfl 2 _ rfl
  clear h
  go_enter Tryz.func31, Tryz.ntmps31
  go_wp2_with fail
  refine (HT.out _).mono ?_
  rintro e w1 ⟨rfl, hb⟩
  have hB : Below w.heap.size w w1 := Below.trans (by go_grown) (hb.mono (by simp; omega))
  have h8 : w1.heap[w.heap.size]? = some (.cells #[.int .i64 0, .int .u64 0, .int .u64 0] 34) := (hb.block _ (by simp; omega)).trans ((heap_alloc_old _ _ (by simp)).trans (heap_alloc_new w _))
  have h9 : w1.heap[w.heap.size + 1]? = some (.cells #[.int .i64 0, .int .u64 0, .int .u64 0] 34) := (hb.block _ (by simp)).trans (by have hn := heap_alloc_new (w.alloc (.cells #[.int .i64 0, .int .u64 0, .int .u64 0] 34)) (.cells #[.int .i64 0, .int .u64 0, .int .u64 0] 34); rw [size_alloc'] at hn; exact hn)
  have r0 : w1.cell? ⟨w.heap.size, 0, none⟩ = some (.int .i64 0) := cell_of h8 0 rfl
  have r1 : w1.cell? ⟨w.heap.size, 1, none⟩ = some (.int .u64 0) := cell_of h8 1 rfl
  have r2 : w1.cell? ⟨w.heap.size, 2, none⟩ = some (.int .u64 0) := cell_of h8 2 rfl
  have rf : ∀ j, w1.frozen? ⟨w.heap.size, j, none⟩ = false := fun j => by simp [World.frozen?, h8]
  have s0 : w1.cell? ⟨w.heap.size + 1, 0, none⟩ = some (.int .i64 0) := cell_of h9 0 rfl
  have s1 : w1.cell? ⟨w.heap.size + 1, 1, none⟩ = some (.int .u64 0) := cell_of h9 1 rfl
  have s2 : w1.cell? ⟨w.heap.size + 1, 2, none⟩ = some (.int .u64 0) := cell_of h9 2 rfl
  have sf : ∀ j, w1.frozen? ⟨w.heap.size + 1, j, none⟩ = false := fun j => by simp [World.frozen?, h9]
  have hs1 : w.heap.size + 1 < w1.heap.size := by have := hb.size; simp at this; omega
  clear hb h8 h9
  go_wp2_with fail
  refine bodyPost_ret (v := .agg #[.int .i64 r.w, .int .u64 r.lo, .int .u64 r.hi]) (by simp [results, Tryz.results31, go_sem, r0, r1, r2, s0, s1, s2, hs1]) rfl ?_
  exact ⟨rfl, by go_grown⟩

theorem dm_40 {w : World} {gb o cc : Nat} {va r : Bt} {p q er : Int} (h : Lb w gb o [va]) (hg : gb < w.heap.size)
    (HT : Hid (∀ wx, Rt 56 #[.agg #[.int .i64 va.w, .int .u64 va.lo, .int .u64 va.hi], .int .i64 p, .bool false] wx (.tuple #[.agg #[.int .i64 r.w, .int .u64 r.lo, .int .u64 r.hi], .int .i64 er]))) :
    Rt 31 #[.int .i64 40, .int .i64 p, .int .i64 q, .slice (some ⟨gb, o, none⟩) 1 cc] w (.agg #[.int .i64 r.w, .int .u64 r.lo, .int .u64 r.hi]) := by
  have va0 : w.cell? ⟨gb, o, none⟩ = some (.int .i64 va.w) := h 0 va rfl 0 _ rfl
  have va1 : w.cell? ⟨gb, o + 1, none⟩ = some (.int .u64 va.lo) := h 0 va rfl 1 _ rfl
  have va2 : w.cell? ⟨gb, o + 2, none⟩ = some (.int .u64 va.hi) := h 0 va rfl 2 _ rfl
  clear h
  go_enter Tryz.func31, Tryz.ntmps31
  go_wp2_with fail
  refine (HT.out _).mono ?_
  rintro e w1 ⟨rfl, hb⟩
  have hB : Below w.heap.size w w1 := Below.trans (by go_grown) (hb.mono (by simp; omega))
  have h8 : w1.heap[w.heap.size]? = some (.cells #[.int .i64 0, .int .u64 0, .int .u64 0] 34) := (hb.block _ (by simp; omega)).trans ((heap_alloc_old _ _ (by simp)).trans (heap_alloc_new w _))
  have h9 : w1.heap[w.heap.size + 1]? = some (.cells #[.int .i64 0, .int .u64 0, .int .u64 0] 34) := (hb.block _ (by simp)).trans (by have hn := heap_alloc_new (w.alloc (.cells #[.int .i64 0, .int .u64 0, .int .u64 0] 34)) (.cells #[.int .i64 0, .int .u64 0, .int .u64 0] 34); rw [size_alloc'] at hn; exact hn)
  have r0 : w1.cell? ⟨w.heap.size, 0, none⟩ = some (.int .i64 0) := cell_of h8 0 rfl
  have r1 : w1.cell? ⟨w.heap.size, 1, none⟩ = some (.int .u64 0) := cell_of h8 1 rfl
  have r2 : w1.cell? ⟨w.heap.size, 2, none⟩ = some (.int .u64 0) := cell_of h8 2 rfl
  have rf : ∀ j, w1.frozen? ⟨w.heap.size, j, none⟩ = false := fun j => by simp [World.frozen?, h8]
  have s0 : w1.cell? ⟨w.heap.size + 1, 0, none⟩ = some (.int .i64 0) := cell_of h9 0 rfl
  have s1 : w1.cell? ⟨w.heap.size + 1, 1, none⟩ = some (.int .u64 0) := cell_of h9 1 rfl
  have s2 : w1.cell? ⟨w.heap.size + 1, 2, none⟩ = some (.int .u64 0) := cell_of h9 2 rfl
  have sf : ∀ j, w1.frozen? ⟨w.heap.size + 1, j, none⟩ = false := fun j => by simp [World.frozen?, h9]
  have hs1 : w.heap.size + 1 < w1.heap.size := by have := hb.size; simp at this; omega
  clear hb h8 h9
  go_wp2_with fail
  refine bodyPost_ret (v := .agg #[.int .i64 r.w, .int .u64 r.lo, .int .u64 r.hi]) (by simp [results, Tryz.results31, go_sem, r0, r1, r2, s0, s1, s2, hs1]) rfl ?_
  exact ⟨rfl, by go_grown⟩

theorem dm_41 {w : World} {gb o cc : Nat} {va r : Bt} {p q er : Int} (h : Lb w gb o [va]) (hg : gb < w.heap.size)
    (HT : Hid (∀ wx, Rt 56 #[.agg #[.int .i64 va.w, .int .u64 va.lo, .int .u64 va.hi], .int .i64 p, .bool true] wx (.tuple #[.agg #[.int .i64 r.w, .int .u64 r.lo, .int .u64 r.hi], .int .i64 er]))) :
    Rt 31 #[.int .i64 41, .int .i64 p, .int .i64 q, .slice (some ⟨gb, o, none⟩) 1 cc] w (.agg #[.int .i64 r.w, .int .u64 r.lo, .int .u64 r.hi]) := by
  have va0 : w.cell? ⟨gb, o, none⟩ = some (.int .i64 va.w) := h 0 va rfl 0 _ rfl
  have va1 : w.cell? ⟨gb, o + 1, none⟩ = some (.int .u64 va.lo) := h 0 va rfl 1 _ rfl
  have va2 : w.cell? ⟨gb, o + 2, none⟩ = some (.int .u64 va.hi) := h 0 va rfl 2 _ rfl
  clear h
  go_enter Tryz.func31, Tryz.ntmps31
  go_wp2_with fail
  refine (HT.out _).mono ?_
  rintro e w1 ⟨rfl, hb⟩
  have hB : Below w.heap.size w w1 := Below.trans (by go_grown) (hb.mono (by simp; omega))
  have h8 : w1.heap[w.heap.size]? = some (.cells #[.int .i64 0, .int .u64 0, .int .u64 0] 34) := (hb.block _ (by simp; omega)).trans ((heap_alloc_old _ _ (by simp)).trans (heap_alloc_new w _))
  have h9 : w1.heap[w.heap.size + 1]? = some (.cells #[.int .i64 0, .int .u64 0, .int .u64 0] 34) := (hb.block _ (by simp)).trans (by have hn := heap_alloc_new (w.alloc (.cells #[.int .i64 0, .int .u64 0, .int .u64 0] 34)) (.cells #[.int .i64 0, .int .u64 0, .int .u64 0] 34); rw [size_alloc'] at hn; exact hn)
  have r0 : w1.cell? ⟨w.heap.size, 0, none⟩ = some (.int .i64 0) := cell_of h8 0 rfl
  have r1 : w1.cell? ⟨w.heap.size, 1, none⟩ = some (.int .u64 0) := cell_of h8 1 rfl
  have r2 : w1.cell? ⟨w.heap.size, 2, none⟩ = some (.int .u64 0) := cell_of h8 2 rfl
  have rf : ∀ j, w1.frozen? ⟨w.heap.size, j, none⟩ = false := fun j => by simp [World.frozen?, h8]
  have s0 : w1.cell? ⟨w.heap.size + 1, 0, none⟩ = some (.int .i64 0) := cell_of h9 0 rfl
  have s1 : w1.cell? ⟨w.heap.size + 1, 1, none⟩ = some (.int .u64 0) := cell_of h9 1 rfl
  have s2 : w1.cell? ⟨w.heap.size + 1, 2, none⟩ = some (.int .u64 0) := cell_of h9 2 rfl
  have sf : ∀ j, w1.frozen? ⟨w.heap.size + 1, j, none⟩ = false := fun j => by simp [World.frozen?, h9]
  have hs1 : w.heap.size + 1 < w1.heap.size := by have := hb.size; simp at this; omega
  clear hb h8 h9
  go_wp2_with fail
  refine bodyPost_ret (v := .agg #[.int .i64 r.w, .int .u64 r.lo, .int .u64 r.hi]) (by simp [results, Tryz.results31, go_sem, r0, r1, r2, s0, s1, s2, hs1]) rfl ?_
  exact ⟨rfl, by go_grown⟩

theorem dm_42 {w : World} {gb o cc : Nat} {va r : Bt} {p q er : Int} (h : Lb w gb o [va]) (hg : gb < w.heap.size)
    (HT : Hid (∀ wx, Rt 57 #[.agg #[.int .i64 va.w, .int .u64 va.lo, .int .u64 va.hi], .int .i64 p, .bool true] wx (.tuple #[.agg #[.int .i64 r.w, .int .u64 r.lo, .int .u64 r.hi], .int .i64 er]))) :
    Rt 31 #[.int .i64 42, .int .i64 p, .int .i64 q, .slice (some ⟨gb, o, none⟩) 1 cc] w (.agg #[.int .i64 r.w, .int .u64 r.lo, .int .u64 r.hi]) := by
  have va0 : w.cell? ⟨gb, o, none⟩ = some (.int .i64 va.w) := h 0 va rfl 0 _ rfl
  have va1 : w.cell? ⟨gb, o + 1, none⟩ = some (.int .u64 va.lo) := h 0 va rfl 1 _ rfl
  have va2 : w.cell? ⟨gb, o + 2, none⟩ = some (.int .u64 va.hi) := h 0 va rfl 2 _ rfl
  clear h
  go_enter Tryz.func31, Tryz.ntmps31
  go_wp2_with fail
  refine (HT.out _).mono ?_
  rintro e w1 ⟨rfl, hb⟩
  have hB : Below w.heap.size w w1 := Below.trans (by go_grown) (hb.mono (by simp; omega))
  have h8 : w1.heap[w.heap.size]? = some (.cells #[.int .i64 0, .int .u64 0, .int .u64 0] 34) := (hb.block _ (by simp; omega)).trans ((heap_alloc_old _ _ (by simp)).trans (heap_alloc_new w _))
  have h9 : w1.heap[w.heap.size + 1]? = some (.cells #[.int .i64 0, .int .u64 0, .int .u64 0] 34) := (hb.block _ (by simp)).trans (by have hn := heap_alloc_new (w.alloc (.cells #[.int .i64 0, .int .u64 0, .int .u64 0] 34)) (.cells #[.int .i64 0, .int .u64 0, .int .u64 0] 34); rw [size_alloc'] at hn; exact hn)
  have r0 : w1.cell? ⟨w.heap.size, 0, none⟩ = some (.int .i64 0) := cell_of h8 0 rfl
  have r1 : w1.cell? ⟨w.heap.size, 1, none⟩ = some (.int .u64 0) := cell_of h8 1 rfl
  have r2 : w1.cell? ⟨w.heap.size, 2, none⟩ = some (.int .u64 0) := cell_of h8 2 rfl
  have rf : ∀ j, w1.frozen? ⟨w.heap.size, j, none⟩ = false := fun j => by simp [World.frozen?, h8]
  have s0 : w1.cell? ⟨w.heap.size + 1, 0, none⟩ = some (.int .i64 0) := cell_of h9 0 rfl
  have s1 : w1.cell? ⟨w.heap.size + 1, 1, none⟩ = some (.int .u64 0) := cell_of h9 1 rfl
  have s2 : w1.cell? ⟨w.heap.size + 1, 2, none⟩ = some (.int .u64 0) := cell_of h9 2 rfl
  have sf : ∀ j, w1.frozen? ⟨w.heap.size + 1, j, none⟩ = false := fun j => by simp [World.frozen?, h9]
  have hs1 : w.heap.size + 1 < w1.heap.size := by have := hb.size; simp at this; omega
  clear hb h8 h9
  go_wp2_with fail
  refine bodyPost_ret (v := .agg #[.int .i64 r.w, .int .u64 r.lo, .int .u64 r.hi]) (by simp [results, Tryz.results31, go_sem, r0, r1, r2, s0, s1, s2, hs1]) rfl ?_
  exact ⟨rfl, by go_grown⟩

theorem dm_43 {w : World} {gb o cc : Nat} {va r : Bt} {p q er : Int} (h : Lb w gb o [va]) (hg : gb < w.heap.size)
    (HT : Hid (∀ wx, Rt 57 #[.agg #[.int .i64 va.w, .int .u64 va.lo, .int .u64 va.hi], .int .i64 p, .bool false] wx (.tuple #[.agg #[.int .i64 r.w, .int .u64 r.lo, .int .u64 r.hi], .int .i64 er]))) :
    Rt 31 #[.int .i64 43, .int .i64 p, .int .i64 q, .slice (some ⟨gb, o, none⟩) 1 cc] w (.agg #[.int .i64 r.w, .int .u64 r.lo, .int .u64 r.hi]) := by
  have va0 : w.cell? ⟨gb, o, none⟩ = some (.int .i64 va.w) := h 0 va rfl 0 _ rfl
  have va1 : w.cell? ⟨gb, o + 1, none⟩ = some (.int .u64 va.lo) := h 0 va rfl 1 _ rfl
  have va2 : w.cell? ⟨gb, o + 2, none⟩ = some (.int .u64 va.hi) := h 0 va rfl 2 _ rfl
  clear h
  go_enter Tryz.func31, Tryz.ntmps31
  go_wp2_with fail
  refine (HT.out _).mono ?_
  rintro e w1 ⟨rfl, hb⟩
  have hB : Below w.heap.size w w1 := Below.trans (by go_grown) (hb.mono (by simp; omega))
  have h8 : w1.heap[w.heap.size]? = some (.cells #[.int .i64 0, .int .u64 0, .int .u64 0] 34) := (hb.block _ (by simp; omega)).trans ((heap_alloc_old _ _ (by simp)).trans (heap_alloc_new w _))
  have h9 : w1.heap[w.heap.size + 1]? = some (.cells #[.int .i64 0, .int .u64 0, .int .u64 0] 34) := (hb.block _ (by simp)).trans (by have hn := heap_alloc_new (w.alloc (.cells #[.int .i64 0, .int .u64 0, .int .u64 0] 34)) (.cells #[.int .i64 0, .int .u64 0, .int .u64 0] 34); rw [size_alloc'] at hn; exact hn)
  have r0 : w1.cell? ⟨w.heap.size, 0, none⟩ = some (.int .i64 0) := cell_of h8 0 rfl
  have r1 : w1.cell? ⟨w.heap.size, 1, none⟩ = some (.int .u64 0) := cell_of h8 1 rfl
  have r2 : w1.cell? ⟨w.heap.size, 2, none⟩ = some (.int .u64 0) := cell_of h8 2 rfl
  have rf : ∀ j, w1.frozen? ⟨w.heap.size, j, none⟩ = false := fun j => by simp [World.frozen?, h8]
  have s0 : w1.cell? ⟨w.heap.size + 1, 0, none⟩ = some (.int .i64 0) := cell_of h9 0 rfl
  have s1 : w1.cell? ⟨w.heap.size + 1, 1, none⟩ = some (.int .u64 0) := cell_of h9 1 rfl
  have s2 : w1.cell? ⟨w.heap.size + 1, 2, none⟩ = some (.int .u64 0) := cell_of h9 2 rfl
  have sf : ∀ j, w1.frozen? ⟨w.heap.size + 1, j, none⟩ = false := fun j => by simp [World.frozen?, h9]
  have hs1 : w.heap.size + 1 < w1.heap.size := by have := hb.size; simp at this; omega
  clear hb h8 h9
  go_wp2_with fail
  refine bodyPost_ret (v := .agg #[.int .i64 r.w, .int .u64 r.lo, .int .u64 r.hi]) (by simp [results, Tryz.results31, go_sem, r0, r1, r2, s0, s1, s2, hs1]) rfl ?_
  exact ⟨rfl, by go_grown⟩

theorem dm_44 {w : World} {gb o cc : Nat} {va r : Bt} {p q er : Int} (h : Lb w gb o [va]) (hg : gb < w.heap.size)
    (HT : Hid (∀ wx, Rt 58 #[.agg #[.int .i64 va.w, .int .u64 va.lo, .int .u64 va.hi], .int .i64 p] wx (.tuple #[.agg #[.int .i64 r.w, .int .u64 r.lo, .int .u64 r.hi], .int .i64 er]))) :
    Rt 31 #[.int .i64 44, .int .i64 p, .int .i64 q, .slice (some ⟨gb, o, none⟩) 1 cc] w (.agg #[.int .i64 r.w, .int .u64 r.lo, .int .u64 r.hi]) := by
  have va0 : w.cell? ⟨gb, o, none⟩ = some (.int .i64 va.w) := h 0 va rfl 0 _ rfl
  have va1 : w.cell? ⟨gb, o + 1, none⟩ = some (.int .u64 va.lo) := h 0 va rfl 1 _ rfl
  have va2 : w.cell? ⟨gb, o + 2, none⟩ = some (.int .u64 va.hi) := h 0 va rfl 2 _ rfl
  clear h
  go_enter Tryz.func31, Tryz.ntmps31
  go_wp2_with fail
  refine (HT.out _).mono ?_
  rintro e w1 ⟨rfl, hb⟩
  have hB : Below w.heap.size w w1 := Below.trans (by go_grown) (hb.mono (by simp; omega))
  have h8 : w1.heap[w.heap.size]? = some (.cells #[.int .i64 0, .int .u64 0, .int .u64 0] 34) := (hb.block _ (by simp; omega)).trans ((heap_alloc_old _ _ (by simp)).trans (heap_alloc_new w _))
  have h9 : w1.heap[w.heap.size + 1]? = some (.cells #[.int .i64 0, .int .u64 0, .int .u64 0] 34) := (hb.block _ (by simp)).trans (by have hn := heap_alloc_new (w.alloc (.cells #[.int .i64 0, .int .u64 0, .int .u64 0] 34)) (.cells #[.int .i64 0, .int .u64 0, .int .u64 0] 34); rw [size_alloc'] at hn; exact hn)
  have r0 : w1.cell? ⟨w.heap.size, 0, none⟩ = some (.int .i64 0) := cell_of h8 0 rfl
  have r1 : w1.cell? ⟨w.heap.size, 1, none⟩ = some (.int .u64 0) := cell_of h8 1 rfl
  have r2 : w1.cell? ⟨w.heap.size, 2, none⟩ = some (.int .u64 0) := cell_of h8 2 rfl
  have rf : ∀ j, w1.frozen? ⟨w.heap.size, j, none⟩ = false := fun j => by simp [World.frozen?, h8]
  have s0 : w1.cell? ⟨w.heap.size + 1, 0, none⟩ = some (.int .i64 0) := cell_of h9 0 rfl
  have s1 : w1.cell? ⟨w.heap.size + 1, 1, none⟩ = some (.int .u64 0) := cell_of h9 1 rfl
  have s2 : w1.cell? ⟨w.heap.size + 1, 2, none⟩ = some (.int .u64 0) := cell_of h9 2 rfl
  have sf : ∀ j, w1.frozen? ⟨w.heap.size + 1, j, none⟩ = false := fun j => by simp [World.frozen?, h9]
  have hs1 : w.heap.size + 1 < w1.heap.size := by have := hb.size; simp at this; omega
  clear hb h8 h9
  go_wp2_with fail
  refine bodyPost_ret (v := .agg #[.int .i64 r.w, .int .u64 r.lo, .int .u64 r.hi]) (by simp [results, Tryz.results31, go_sem, r0, r1, r2, s0, s1, s2, hs1]) rfl ?_
  exact ⟨rfl, by go_grown⟩
end Go.Proofs.YtnflphhckgeneaaGreat
