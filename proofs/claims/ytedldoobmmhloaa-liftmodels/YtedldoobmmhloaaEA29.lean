import Derived.Test.YtedldoobmmhloaaEA26
namespace Go.Proofs.Ytedldoobmmhloaa
set_option maxHeartbeats 12800000
set_option maxRecDepth 100000
open Go.RowKit
set_option linter.unusedSimpArgs false
set_option linter.unusedVariables false
theorem mean_42 {p q : Int} (w : World) :
  Calls Try.prog 54 #[.int .i64 42, .int .i64 p, .int .i64 q] w fun e w' => e = .returned (.agg #[.func (.func 71) #[] #[.pointer (some ⟨w.heap.size + 1, 0, none⟩), .pointer (some ⟨w.heap.size, 0, none⟩)]]) ∧ Below w.heap.size w w' ∧ w.heap.size + 3 < w'.heap.size ∧ w'.cell? ⟨w.heap.size + 1, 0, none⟩ = some (.int .i64 p) ∧ w'.cell? ⟨w.heap.size, 0, none⟩ = some (.int .i64 42) := by
 have hmf := mkf
 have hsf := stf
 go_enter Try.func54, Try.ntmps54
 go_wp2_with fail
 refine bodyPost_ret (v := .agg #[.func (.func 71) #[] #[.pointer (some ⟨w.heap.size + 1, 0, none⟩), .pointer (some ⟨w.heap.size, 0, none⟩)]]) (by simp [results, Try.results54, go_sem]) rfl ?_
 refine ⟨rfl, by go_grown, (by first | (simp; done) | (simp; omega)), ?_, ?_⟩
 ·have hn := heap_alloc_new (w.alloc (.cells #[.int .i64 42] 3)) (.cells #[.int .i64 p] 3)
  rw [size_alloc'] at hn
  refine (World.cell?_of_block ?_).trans (cell_of hn 0 rfl)
  exact (heap_alloc_old _ _ (by first | (simp; done) | (simp; omega))).trans (heap_alloc_old _ _ (by simp))
 ·refine (World.cell?_of_block ?_).trans (cell_of (heap_alloc_new w (.cells #[.int .i64 42] 3)) 0 rfl)
  exact (heap_alloc_old _ _ (by first | (simp; done) | (simp; omega))).trans ((heap_alloc_old _ _ (by first | (simp; done) | (simp; omega))).trans (heap_alloc_old _ _ (by simp)))
theorem apply_42 {w : World} {g o c : Nat} {a r : Bt} {p q s er : Int} (h : Lb w g o [a]) (hg : g < w.heap.size) (hka : Bk a) (hs : srtF 42 p q [sof a] = (s, 0))
  (HT : Hid (∀ wx, Calls Try.prog 72 #[.agg #[.int .i64 a.w, .int .u64 a.lo, .int .u64 a.hi], .int .i64 p, .bool true] wx fun e w' => e = .returned (.tuple #[.agg #[.int .i64 r.w, .int .u64 r.lo, .int .u64 r.hi], .int .i64 er]) ∧ Below wx.heap.size wx w')) :
  Calls Try.prog 51 #[.int .i64 42, .int .i64 p, .int .i64 q, .slice (some ⟨g, o, none⟩) 1 c] w fun e w' => e = .returned (.tuple #[.agg #[.int .i64 r.w, .int .u64 r.lo, .int .u64 r.hi], .int .i64 er]) ∧ Below w.heap.size w w' := by
 have hLb : ∀ wx, Below w.heap.size w wx → Lb wx g o [a] := fun wx hb j x hj t u hu => by rw [hb.cell (p := ⟨g, o + j * 3 + t, none⟩) hg]; exact h j x hj t u hu
 have HSO : Hid (∀ wx, Below w.heap.size w wx → Calls Try.prog 53 #[.slice (some ⟨g, o, none⟩) 1 c] wx fun e w' => ∃ u, e = .returned u ∧ Is' w' wx.heap.size u ([a].map sof) ∧ Below wx.heap.size wx w') := fun wx hb => sorts_any (l := [a]) (hLb wx hb) (Nat.lt_of_lt_of_le hg hb.size) (fun x hx => by rw [List.mem_singleton.1 hx]; exact hka) (by simp)
 have HVS : Hid (∀ wx u base, Is' wx base u ([a].map sof) → Calls Try.prog 38 #[.int .i64 42, .int .i64 p, .int .i64 q, u] wx fun e w' => e = .returned (.tuple #[.int .i64 s, .int .i64 0]) ∧ Below wx.heap.size wx w') := fun wx u base hi => by
  have := vsort_any (op := 42) (p := p) (q := q) hi (by simp) (by simp)
  rw [show [a].map sof = [sof a] from rfl, hs] at this; exact this
 have HME : Hid _ := fun wx => mean_42 (p := p) (q := q) wx
 have HCL : Hid (∀ wx bo0 bo1, Below w.heap.size w wx → wx.cell? ⟨bo0, 0, none⟩ = some (.int .i64 p) → bo0 < wx.heap.size → wx.cell? ⟨bo1, 0, none⟩ = some (.int .i64 42) → bo1 < wx.heap.size → Calls Try.prog 71 #[.slice (some ⟨g, o, none⟩) 1 c, .pointer (some ⟨bo0, 0, none⟩), .pointer (some ⟨bo1, 0, none⟩)] wx fun e w' => e = .returned (.tuple #[.agg #[.int .i64 r.w, .int .u64 r.lo, .int .u64 r.hi], .int .i64 er]) ∧ Below wx.heap.size wx w') := fun wx bo0 bo1 hb hc0 hl0 hc1 hl1 => cl_9 (hLb wx hb) (Nat.lt_of_lt_of_le hg hb.size) hc0 hl0 hc1 hl1 rfl HT
 have hfd : ∀ wx bo0 bo1, (Instr.field 95 (.agg #[.func (.func 71) #[] #[.pointer (some ⟨bo0, 0, none⟩), .pointer (some ⟨bo1, 0, none⟩)]]) 0).run Try.prog wx = .ok (.func (.func 71) #[] #[.pointer (some ⟨bo0, 0, none⟩), .pointer (some ⟨bo1, 0, none⟩)]) wx := fun wx bo0 bo1 => fld _ rfl wx
 clear h hka hs hLb
 go_enter Try.func51, Try.ntmps51
 go_wp2_with fail
 refine Calls.mono (HSO.out _ (by go_grown)) ?_
 rintro e w1 ⟨u, rfl, hI, hb⟩
 have HI : Hid _ := hI
 have hB : Below w.heap.size w w1 := Below.trans (by go_grown) (hb.mono (by simp))
 have hr : w1.heap[w.heap.size]? = some (.cells #[.int .i64 0, .int .u64 0, .int .u64 0] 25) := (hb.block _ (by simp)).trans (heap_alloc_new w _)
 have HR : Hid _ := hr
 clear hb hI hr
 go_wp2_with fail
 refine Calls.mono (HVS.out _ _ _ HI.out) ?_
 rintro e w2 ⟨rfl, hb⟩
 have hB2 : Below w.heap.size w w2 := hB.trans (hb.mono hB.size)
 have HR2 : Hid _ := (hb.block _ (Array.getElem?_eq_some_iff.1 HR.out).1).trans HR.out
 clear hb HI HR hB
 go_wp2_with fail
 refine Calls.mono (HME.out _) ?_
 rintro e w3 ⟨rfl, hb, hsz, hc0, hc1⟩
 have hB3 : Below w.heap.size w w3 := hB2.trans (hb.mono hB2.size)
 have HR3 : Hid _ := (hb.block _ (Array.getElem?_eq_some_iff.1 HR2.out).1).trans HR2.out
 have HC0 : Hid _ := hc0
 have HC1 : Hid _ := hc1
 clear hc0 hc1
 clear hb HR2 hB2
 go_wp2_with fail
 refine Calls.mono (HCL.out _ _ _ hB3 HC0.out (by omega) HC1.out (by omega)) ?_
 rintro e w4 ⟨rfl, hb⟩
 have hB4 : Below w.heap.size w w4 := hB3.trans (hb.mono hB3.size)
 have hr4 : w4.heap[w.heap.size]? = _ := (hb.block _ (Array.getElem?_eq_some_iff.1 HR3.out).1).trans HR3.out
 have t0 : w4.cell? ⟨w.heap.size, 0, none⟩ = some (.int .i64 0) := cell_of hr4 0 rfl
 have t1 : w4.cell? ⟨w.heap.size, 1, none⟩ = some (.int .u64 0) := cell_of hr4 1 rfl
 have t2 : w4.cell? ⟨w.heap.size, 2, none⟩ = some (.int .u64 0) := cell_of hr4 2 rfl
 have tf : ∀ j, w4.frozen? ⟨w.heap.size, j, none⟩ = false := fun j => by simp [World.frozen?, hr4]
 clear hb HR3 hr4 hB3
 go_wp2_with fail
 refine bodyPost_ret (v := .tuple #[.agg #[.int .i64 r.w, .int .u64 r.lo, .int .u64 r.hi], .int .i64 er]) (by simp [results, Try.results51, go_sem, t0, t1, t2]) rfl ?_
 exact ⟨rfl, by go_grown⟩
theorem mean_43 {p q : Int} (w : World) :
  Calls Try.prog 54 #[.int .i64 43, .int .i64 p, .int .i64 q] w fun e w' => e = .returned (.agg #[.func (.func 71) #[] #[.pointer (some ⟨w.heap.size + 1, 0, none⟩), .pointer (some ⟨w.heap.size, 0, none⟩)]]) ∧ Below w.heap.size w w' ∧ w.heap.size + 3 < w'.heap.size ∧ w'.cell? ⟨w.heap.size + 1, 0, none⟩ = some (.int .i64 p) ∧ w'.cell? ⟨w.heap.size, 0, none⟩ = some (.int .i64 43) := by
 have hmf := mkf
 have hsf := stf
 go_enter Try.func54, Try.ntmps54
 go_wp2_with fail
 refine bodyPost_ret (v := .agg #[.func (.func 71) #[] #[.pointer (some ⟨w.heap.size + 1, 0, none⟩), .pointer (some ⟨w.heap.size, 0, none⟩)]]) (by simp [results, Try.results54, go_sem]) rfl ?_
 refine ⟨rfl, by go_grown, (by first | (simp; done) | (simp; omega)), ?_, ?_⟩
 ·have hn := heap_alloc_new (w.alloc (.cells #[.int .i64 43] 3)) (.cells #[.int .i64 p] 3)
  rw [size_alloc'] at hn
  refine (World.cell?_of_block ?_).trans (cell_of hn 0 rfl)
  exact (heap_alloc_old _ _ (by first | (simp; done) | (simp; omega))).trans (heap_alloc_old _ _ (by simp))
 ·refine (World.cell?_of_block ?_).trans (cell_of (heap_alloc_new w (.cells #[.int .i64 43] 3)) 0 rfl)
  exact (heap_alloc_old _ _ (by first | (simp; done) | (simp; omega))).trans ((heap_alloc_old _ _ (by first | (simp; done) | (simp; omega))).trans (heap_alloc_old _ _ (by simp)))
theorem apply_43 {w : World} {g o c : Nat} {a r : Bt} {p q s er : Int} (h : Lb w g o [a]) (hg : g < w.heap.size) (hka : Bk a) (hs : srtF 43 p q [sof a] = (s, 0))
  (HT : Hid (∀ wx, Calls Try.prog 72 #[.agg #[.int .i64 a.w, .int .u64 a.lo, .int .u64 a.hi], .int .i64 p, .bool false] wx fun e w' => e = .returned (.tuple #[.agg #[.int .i64 r.w, .int .u64 r.lo, .int .u64 r.hi], .int .i64 er]) ∧ Below wx.heap.size wx w')) :
  Calls Try.prog 51 #[.int .i64 43, .int .i64 p, .int .i64 q, .slice (some ⟨g, o, none⟩) 1 c] w fun e w' => e = .returned (.tuple #[.agg #[.int .i64 r.w, .int .u64 r.lo, .int .u64 r.hi], .int .i64 er]) ∧ Below w.heap.size w w' := by
 have hLb : ∀ wx, Below w.heap.size w wx → Lb wx g o [a] := fun wx hb j x hj t u hu => by rw [hb.cell (p := ⟨g, o + j * 3 + t, none⟩) hg]; exact h j x hj t u hu
 have HSO : Hid (∀ wx, Below w.heap.size w wx → Calls Try.prog 53 #[.slice (some ⟨g, o, none⟩) 1 c] wx fun e w' => ∃ u, e = .returned u ∧ Is' w' wx.heap.size u ([a].map sof) ∧ Below wx.heap.size wx w') := fun wx hb => sorts_any (l := [a]) (hLb wx hb) (Nat.lt_of_lt_of_le hg hb.size) (fun x hx => by rw [List.mem_singleton.1 hx]; exact hka) (by simp)
 have HVS : Hid (∀ wx u base, Is' wx base u ([a].map sof) → Calls Try.prog 38 #[.int .i64 43, .int .i64 p, .int .i64 q, u] wx fun e w' => e = .returned (.tuple #[.int .i64 s, .int .i64 0]) ∧ Below wx.heap.size wx w') := fun wx u base hi => by
  have := vsort_any (op := 43) (p := p) (q := q) hi (by simp) (by simp)
  rw [show [a].map sof = [sof a] from rfl, hs] at this; exact this
 have HME : Hid _ := fun wx => mean_43 (p := p) (q := q) wx
 have HCL : Hid (∀ wx bo0 bo1, Below w.heap.size w wx → wx.cell? ⟨bo0, 0, none⟩ = some (.int .i64 p) → bo0 < wx.heap.size → wx.cell? ⟨bo1, 0, none⟩ = some (.int .i64 43) → bo1 < wx.heap.size → Calls Try.prog 71 #[.slice (some ⟨g, o, none⟩) 1 c, .pointer (some ⟨bo0, 0, none⟩), .pointer (some ⟨bo1, 0, none⟩)] wx fun e w' => e = .returned (.tuple #[.agg #[.int .i64 r.w, .int .u64 r.lo, .int .u64 r.hi], .int .i64 er]) ∧ Below wx.heap.size wx w') := fun wx bo0 bo1 hb hc0 hl0 hc1 hl1 => cl_9 (hLb wx hb) (Nat.lt_of_lt_of_le hg hb.size) hc0 hl0 hc1 hl1 rfl HT
 have hfd : ∀ wx bo0 bo1, (Instr.field 95 (.agg #[.func (.func 71) #[] #[.pointer (some ⟨bo0, 0, none⟩), .pointer (some ⟨bo1, 0, none⟩)]]) 0).run Try.prog wx = .ok (.func (.func 71) #[] #[.pointer (some ⟨bo0, 0, none⟩), .pointer (some ⟨bo1, 0, none⟩)]) wx := fun wx bo0 bo1 => fld _ rfl wx
 clear h hka hs hLb
 go_enter Try.func51, Try.ntmps51
 go_wp2_with fail
 refine Calls.mono (HSO.out _ (by go_grown)) ?_
 rintro e w1 ⟨u, rfl, hI, hb⟩
 have HI : Hid _ := hI
 have hB : Below w.heap.size w w1 := Below.trans (by go_grown) (hb.mono (by simp))
 have hr : w1.heap[w.heap.size]? = some (.cells #[.int .i64 0, .int .u64 0, .int .u64 0] 25) := (hb.block _ (by simp)).trans (heap_alloc_new w _)
 have HR : Hid _ := hr
 clear hb hI hr
 go_wp2_with fail
 refine Calls.mono (HVS.out _ _ _ HI.out) ?_
 rintro e w2 ⟨rfl, hb⟩
 have hB2 : Below w.heap.size w w2 := hB.trans (hb.mono hB.size)
 have HR2 : Hid _ := (hb.block _ (Array.getElem?_eq_some_iff.1 HR.out).1).trans HR.out
 clear hb HI HR hB
 go_wp2_with fail
 refine Calls.mono (HME.out _) ?_
 rintro e w3 ⟨rfl, hb, hsz, hc0, hc1⟩
 have hB3 : Below w.heap.size w w3 := hB2.trans (hb.mono hB2.size)
 have HR3 : Hid _ := (hb.block _ (Array.getElem?_eq_some_iff.1 HR2.out).1).trans HR2.out
 have HC0 : Hid _ := hc0
 have HC1 : Hid _ := hc1
 clear hc0 hc1
 clear hb HR2 hB2
 go_wp2_with fail
 refine Calls.mono (HCL.out _ _ _ hB3 HC0.out (by omega) HC1.out (by omega)) ?_
 rintro e w4 ⟨rfl, hb⟩
 have hB4 : Below w.heap.size w w4 := hB3.trans (hb.mono hB3.size)
 have hr4 : w4.heap[w.heap.size]? = _ := (hb.block _ (Array.getElem?_eq_some_iff.1 HR3.out).1).trans HR3.out
 have t0 : w4.cell? ⟨w.heap.size, 0, none⟩ = some (.int .i64 0) := cell_of hr4 0 rfl
 have t1 : w4.cell? ⟨w.heap.size, 1, none⟩ = some (.int .u64 0) := cell_of hr4 1 rfl
 have t2 : w4.cell? ⟨w.heap.size, 2, none⟩ = some (.int .u64 0) := cell_of hr4 2 rfl
 have tf : ∀ j, w4.frozen? ⟨w.heap.size, j, none⟩ = false := fun j => by simp [World.frozen?, hr4]
 clear hb HR3 hr4 hB3
 go_wp2_with fail
 refine bodyPost_ret (v := .tuple #[.agg #[.int .i64 r.w, .int .u64 r.lo, .int .u64 r.hi], .int .i64 er]) (by simp [results, Try.results51, go_sem, t0, t1, t2]) rfl ?_
 exact ⟨rfl, by go_grown⟩
theorem mean_44 {p q : Int} (w : World) :
  Calls Try.prog 54 #[.int .i64 44, .int .i64 p, .int .i64 q] w fun e w' => e = .returned (.agg #[.func (.func 73) #[] #[.pointer (some ⟨w.heap.size + 1, 0, none⟩)]]) ∧ Below w.heap.size w w' ∧ w.heap.size + 3 < w'.heap.size ∧ w'.cell? ⟨w.heap.size + 1, 0, none⟩ = some (.int .i64 p) := by
 have hmf := mkf
 have hsf := stf
 go_enter Try.func54, Try.ntmps54
 go_wp2_with fail
 refine bodyPost_ret (v := .agg #[.func (.func 73) #[] #[.pointer (some ⟨w.heap.size + 1, 0, none⟩)]]) (by simp [results, Try.results54, go_sem]) rfl ?_
 refine ⟨rfl, by go_grown, (by first | (simp; done) | (simp; omega)), ?_⟩
 ·have hn := heap_alloc_new (w.alloc (.cells #[.int .i64 44] 3)) (.cells #[.int .i64 p] 3)
  rw [size_alloc'] at hn
  refine (World.cell?_of_block ?_).trans (cell_of hn 0 rfl)
  exact (heap_alloc_old _ _ (by first | (simp; done) | (simp; omega))).trans (heap_alloc_old _ _ (by simp))
theorem apply_44 {w : World} {g o c : Nat} {a r : Bt} {p q s er : Int} (h : Lb w g o [a]) (hg : g < w.heap.size) (hka : Bk a) (hs : srtF 44 p q [sof a] = (s, 0))
  (HT : Hid (∀ wx, Calls Try.prog 74 #[.agg #[.int .i64 a.w, .int .u64 a.lo, .int .u64 a.hi], .int .i64 p] wx fun e w' => e = .returned (.tuple #[.agg #[.int .i64 r.w, .int .u64 r.lo, .int .u64 r.hi], .int .i64 er]) ∧ Below wx.heap.size wx w')) :
  Calls Try.prog 51 #[.int .i64 44, .int .i64 p, .int .i64 q, .slice (some ⟨g, o, none⟩) 1 c] w fun e w' => e = .returned (.tuple #[.agg #[.int .i64 r.w, .int .u64 r.lo, .int .u64 r.hi], .int .i64 er]) ∧ Below w.heap.size w w' := by
 have hLb : ∀ wx, Below w.heap.size w wx → Lb wx g o [a] := fun wx hb j x hj t u hu => by rw [hb.cell (p := ⟨g, o + j * 3 + t, none⟩) hg]; exact h j x hj t u hu
 have HSO : Hid (∀ wx, Below w.heap.size w wx → Calls Try.prog 53 #[.slice (some ⟨g, o, none⟩) 1 c] wx fun e w' => ∃ u, e = .returned u ∧ Is' w' wx.heap.size u ([a].map sof) ∧ Below wx.heap.size wx w') := fun wx hb => sorts_any (l := [a]) (hLb wx hb) (Nat.lt_of_lt_of_le hg hb.size) (fun x hx => by rw [List.mem_singleton.1 hx]; exact hka) (by simp)
 have HVS : Hid (∀ wx u base, Is' wx base u ([a].map sof) → Calls Try.prog 38 #[.int .i64 44, .int .i64 p, .int .i64 q, u] wx fun e w' => e = .returned (.tuple #[.int .i64 s, .int .i64 0]) ∧ Below wx.heap.size wx w') := fun wx u base hi => by
  have := vsort_any (op := 44) (p := p) (q := q) hi (by simp) (by simp)
  rw [show [a].map sof = [sof a] from rfl, hs] at this; exact this
 have HME : Hid _ := fun wx => mean_44 (p := p) (q := q) wx
 have HCL : Hid (∀ wx bo0, Below w.heap.size w wx → wx.cell? ⟨bo0, 0, none⟩ = some (.int .i64 p) → bo0 < wx.heap.size → Calls Try.prog 73 #[.slice (some ⟨g, o, none⟩) 1 c, .pointer (some ⟨bo0, 0, none⟩)] wx fun e w' => e = .returned (.tuple #[.agg #[.int .i64 r.w, .int .u64 r.lo, .int .u64 r.hi], .int .i64 er]) ∧ Below wx.heap.size wx w') := fun wx bo0 hb hc0 hl0 => cl_10 (hLb wx hb) (Nat.lt_of_lt_of_le hg hb.size) hc0 hl0 HT
 have hfd : ∀ wx bo0, (Instr.field 95 (.agg #[.func (.func 73) #[] #[.pointer (some ⟨bo0, 0, none⟩)]]) 0).run Try.prog wx = .ok (.func (.func 73) #[] #[.pointer (some ⟨bo0, 0, none⟩)]) wx := fun wx bo0 => fld _ rfl wx
 clear h hka hs hLb
 go_enter Try.func51, Try.ntmps51
 go_wp2_with fail
 refine Calls.mono (HSO.out _ (by go_grown)) ?_
 rintro e w1 ⟨u, rfl, hI, hb⟩
 have HI : Hid _ := hI
 have hB : Below w.heap.size w w1 := Below.trans (by go_grown) (hb.mono (by simp))
 have hr : w1.heap[w.heap.size]? = some (.cells #[.int .i64 0, .int .u64 0, .int .u64 0] 25) := (hb.block _ (by simp)).trans (heap_alloc_new w _)
 have HR : Hid _ := hr
 clear hb hI hr
 go_wp2_with fail
 refine Calls.mono (HVS.out _ _ _ HI.out) ?_
 rintro e w2 ⟨rfl, hb⟩
 have hB2 : Below w.heap.size w w2 := hB.trans (hb.mono hB.size)
 have HR2 : Hid _ := (hb.block _ (Array.getElem?_eq_some_iff.1 HR.out).1).trans HR.out
 clear hb HI HR hB
 go_wp2_with fail
 refine Calls.mono (HME.out _) ?_
 rintro e w3 ⟨rfl, hb, hsz, hc0⟩
 have hB3 : Below w.heap.size w w3 := hB2.trans (hb.mono hB2.size)
 have HR3 : Hid _ := (hb.block _ (Array.getElem?_eq_some_iff.1 HR2.out).1).trans HR2.out
 have HC0 : Hid _ := hc0
 clear hc0
 clear hb HR2 hB2
 go_wp2_with fail
 refine Calls.mono (HCL.out _ _ hB3 HC0.out (by omega)) ?_
 rintro e w4 ⟨rfl, hb⟩
 have hB4 : Below w.heap.size w w4 := hB3.trans (hb.mono hB3.size)
 have hr4 : w4.heap[w.heap.size]? = _ := (hb.block _ (Array.getElem?_eq_some_iff.1 HR3.out).1).trans HR3.out
 have t0 : w4.cell? ⟨w.heap.size, 0, none⟩ = some (.int .i64 0) := cell_of hr4 0 rfl
 have t1 : w4.cell? ⟨w.heap.size, 1, none⟩ = some (.int .u64 0) := cell_of hr4 1 rfl
 have t2 : w4.cell? ⟨w.heap.size, 2, none⟩ = some (.int .u64 0) := cell_of hr4 2 rfl
 have tf : ∀ j, w4.frozen? ⟨w.heap.size, j, none⟩ = false := fun j => by simp [World.frozen?, hr4]
 clear hb HR3 hr4 hB3
 go_wp2_with fail
 refine bodyPost_ret (v := .tuple #[.agg #[.int .i64 r.w, .int .u64 r.lo, .int .u64 r.hi], .int .i64 er]) (by simp [results, Try.results51, go_sem, t0, t1, t2]) rfl ?_
 exact ⟨rfl, by go_grown⟩
end Go.Proofs.Ytedldoobmmhloaa
