import Derived.Test.YtedldoobmmhloaaEA26
namespace Go.Proofs.Ytedldoobmmhloaa
set_option maxHeartbeats 12800000
set_option maxRecDepth 100000
open Go.RowKit
set_option linter.unusedSimpArgs false
set_option linter.unusedVariables false
theorem mean_38 {p q : Int} (w : World) :
  Calls Try.prog 54 #[.int .i64 38, .int .i64 p, .int .i64 q] w fun e w' => e = .returned (.agg #[.func (.func 65) #[] #[]]) ∧ Below w.heap.size w w' ∧ w.heap.size + 3 < w'.heap.size := by
 have hmf := mkf
 have hsf := stf
 go_enter Try.func54, Try.ntmps54
 go_wp2_with fail
 refine bodyPost_ret (v := .agg #[.func (.func 65) #[] #[]]) (by simp [results, Try.results54, go_sem]) rfl ?_
 refine ⟨rfl, by go_grown, (by first | (simp; done) | (simp; omega))⟩
theorem apply_38 {w : World} {g o c : Nat} {a b r : Bt} {p q s er : Int} (h : Lb w g o [a, b]) (hg : g < w.heap.size) (hka : Bk a) (hkb : Bk b) (hs : srtF 38 p q [sof a, sof b] = (s, 0))
  (HT : Hid (∀ wx, Calls Try.prog 66 #[.agg #[.int .i64 a.w, .int .u64 a.lo, .int .u64 a.hi], .agg #[.int .i64 b.w, .int .u64 b.lo, .int .u64 b.hi]] wx fun e w' => e = .returned (.tuple #[.agg #[.int .i64 r.w, .int .u64 r.lo, .int .u64 r.hi], .int .i64 er]) ∧ Below wx.heap.size wx w')) :
  Calls Try.prog 51 #[.int .i64 38, .int .i64 p, .int .i64 q, .slice (some ⟨g, o, none⟩) 2 c] w fun e w' => e = .returned (.tuple #[.agg #[.int .i64 r.w, .int .u64 r.lo, .int .u64 r.hi], .int .i64 er]) ∧ Below w.heap.size w w' := by
 have hLb : ∀ wx, Below w.heap.size w wx → Lb wx g o [a, b] := fun wx hb j x hj t u hu => by rw [hb.cell (p := ⟨g, o + j * 3 + t, none⟩) hg]; exact h j x hj t u hu
 have HSO : Hid (∀ wx, Below w.heap.size w wx → Calls Try.prog 53 #[.slice (some ⟨g, o, none⟩) 2 c] wx fun e w' => ∃ u, e = .returned u ∧ Is' w' wx.heap.size u ([a, b].map sof) ∧ Below wx.heap.size wx w') := fun wx hb => sorts_any (l := [a, b]) (hLb wx hb) (Nat.lt_of_lt_of_le hg hb.size) (fun x hx => by
  rcases List.mem_cons.1 hx with rfl | hx
  ·exact hka
  ·rw [List.mem_singleton.1 hx]; exact hkb) (by simp)
 have HVS : Hid (∀ wx u base, Is' wx base u ([a, b].map sof) → Calls Try.prog 38 #[.int .i64 38, .int .i64 p, .int .i64 q, u] wx fun e w' => e = .returned (.tuple #[.int .i64 s, .int .i64 0]) ∧ Below wx.heap.size wx w') := fun wx u base hi => by
  have := vsort_any (op := 38) (p := p) (q := q) hi (by simp) (by simp)
  rw [show [a, b].map sof = [sof a, sof b] from rfl, hs] at this; exact this
 have HME : Hid _ := fun wx => mean_38 (p := p) (q := q) wx
 have HCL : Hid (∀ wx, Below w.heap.size w wx → Calls Try.prog 65 #[.slice (some ⟨g, o, none⟩) 2 c] wx fun e w' => e = .returned (.tuple #[.agg #[.int .i64 r.w, .int .u64 r.lo, .int .u64 r.hi], .int .i64 er]) ∧ Below wx.heap.size wx w') := fun wx hb => cl_6 (hLb wx hb) (Nat.lt_of_lt_of_le hg hb.size) HT
 have hfd : ∀ wx, (Instr.field 95 (.agg #[.func (.func 65) #[] #[]]) 0).run Try.prog wx = .ok (.func (.func 65) #[] #[]) wx := fun wx => fld _ rfl wx
 clear h hka hkb hs hLb
 go_enter Try.func51, Try.ntmps51
 go_wp2_with fail
 refine Calls.mono (HSO.out _ (by go_grown)) ?_
 rintro e w1 ⟨u, rfl, hI, hb⟩
 have HI : Hid _ := hI
 have hB : Below w.heap.size w w1 := Below.trans (by go_grown) (hb.mono (by simp))
 have hr : w1.heap[w.heap.size]? = some (.cells #[.int .i64 0, .int .u64 0, .int .u64 0] 25) := (hb.block _ (by simp)).trans (heap_alloc_new w _)
 have HR : Hid _ := hr
 clear hb hI hr
 go_wp2_with fail
 refine Calls.mono (HVS.out _ _ _ HI.out) ?_
 rintro e w2 ⟨rfl, hb⟩
 have hB2 : Below w.heap.size w w2 := hB.trans (hb.mono hB.size)
 have HR2 : Hid _ := (hb.block _ (Array.getElem?_eq_some_iff.1 HR.out).1).trans HR.out
 clear hb HI HR hB
 go_wp2_with fail
 refine Calls.mono (HME.out _) ?_
 rintro e w3 ⟨rfl, hb, hsz⟩
 have hB3 : Below w.heap.size w w3 := hB2.trans (hb.mono hB2.size)
 have HR3 : Hid _ := (hb.block _ (Array.getElem?_eq_some_iff.1 HR2.out).1).trans HR2.out
 clear hb HR2 hB2
 go_wp2_with fail
 refine Calls.mono (HCL.out _ hB3) ?_
 rintro e w4 ⟨rfl, hb⟩
 have hB4 : Below w.heap.size w w4 := hB3.trans (hb.mono hB3.size)
 have hr4 : w4.heap[w.heap.size]? = _ := (hb.block _ (Array.getElem?_eq_some_iff.1 HR3.out).1).trans HR3.out
 have t0 : w4.cell? ⟨w.heap.size, 0, none⟩ = some (.int .i64 0) := cell_of hr4 0 rfl
 have t1 : w4.cell? ⟨w.heap.size, 1, none⟩ = some (.int .u64 0) := cell_of hr4 1 rfl
 have t2 : w4.cell? ⟨w.heap.size, 2, none⟩ = some (.int .u64 0) := cell_of hr4 2 rfl
 have tf : ∀ j, w4.frozen? ⟨w.heap.size, j, none⟩ = false := fun j => by simp [World.frozen?, hr4]
 clear hb HR3 hr4 hB3
 go_wp2_with fail
 refine bodyPost_ret (v := .tuple #[.agg #[.int .i64 r.w, .int .u64 r.lo, .int .u64 r.hi], .int .i64 er]) (by simp [results, Try.results51, go_sem, t0, t1, t2]) rfl ?_
 exact ⟨rfl, by go_grown⟩
theorem mean_39 {p q : Int} (w : World) :
  Calls Try.prog 54 #[.int .i64 39, .int .i64 p, .int .i64 q] w fun e w' => e = .returned (.agg #[.func (.func 67) #[] #[.pointer (some ⟨w.heap.size + 1, 0, none⟩), .pointer (some ⟨w.heap.size + 1 + 1, 0, none⟩)]]) ∧ Below w.heap.size w w' ∧ w.heap.size + 3 < w'.heap.size ∧ w'.cell? ⟨w.heap.size + 1, 0, none⟩ = some (.int .i64 p) ∧ w'.cell? ⟨w.heap.size + 1 + 1, 0, none⟩ = some (.int .i64 q) := by
 have hmf := mkf
 have hsf := stf
 go_enter Try.func54, Try.ntmps54
 go_wp2_with fail
 refine bodyPost_ret (v := .agg #[.func (.func 67) #[] #[.pointer (some ⟨w.heap.size + 1, 0, none⟩), .pointer (some ⟨w.heap.size + 1 + 1, 0, none⟩)]]) (by simp [results, Try.results54, go_sem]) rfl ?_
 refine ⟨rfl, by go_grown, (by first | (simp; done) | (simp; omega)), ?_, ?_⟩
 ·have hn := heap_alloc_new (w.alloc (.cells #[.int .i64 39] 3)) (.cells #[.int .i64 p] 3)
  rw [size_alloc'] at hn
  refine (World.cell?_of_block ?_).trans (cell_of hn 0 rfl)
  exact (heap_alloc_old _ _ (by first | (simp; done) | (simp; omega))).trans (heap_alloc_old _ _ (by simp))
 ·have hn := heap_alloc_new ((w.alloc (.cells #[.int .i64 39] 3)).alloc (.cells #[.int .i64 p] 3)) (.cells #[.int .i64 q] 3)
  rw [size_alloc', size_alloc'] at hn
  refine (World.cell?_of_block ?_).trans (cell_of hn 0 rfl)
  exact heap_alloc_old _ _ (by simp)
theorem apply_39 {w : World} {g o c : Nat} {a r : Bt} {p q s er : Int} (h : Lb w g o [a]) (hg : g < w.heap.size) (hka : Bk a) (hs : srtF 39 p q [sof a] = (s, 0))
  (HT : Hid (∀ wx, Calls Try.prog 68 #[.agg #[.int .i64 a.w, .int .u64 a.lo, .int .u64 a.hi], .int .i64 p, .int .i64 q] wx fun e w' => e = .returned (.tuple #[.agg #[.int .i64 r.w, .int .u64 r.lo, .int .u64 r.hi], .int .i64 er]) ∧ Below wx.heap.size wx w')) :
  Calls Try.prog 51 #[.int .i64 39, .int .i64 p, .int .i64 q, .slice (some ⟨g, o, none⟩) 1 c] w fun e w' => e = .returned (.tuple #[.agg #[.int .i64 r.w, .int .u64 r.lo, .int .u64 r.hi], .int .i64 er]) ∧ Below w.heap.size w w' := by
 have hLb : ∀ wx, Below w.heap.size w wx → Lb wx g o [a] := fun wx hb j x hj t u hu => by rw [hb.cell (p := ⟨g, o + j * 3 + t, none⟩) hg]; exact h j x hj t u hu
 have HSO : Hid (∀ wx, Below w.heap.size w wx → Calls Try.prog 53 #[.slice (some ⟨g, o, none⟩) 1 c] wx fun e w' => ∃ u, e = .returned u ∧ Is' w' wx.heap.size u ([a].map sof) ∧ Below wx.heap.size wx w') := fun wx hb => sorts_any (l := [a]) (hLb wx hb) (Nat.lt_of_lt_of_le hg hb.size) (fun x hx => by rw [List.mem_singleton.1 hx]; exact hka) (by simp)
 have HVS : Hid (∀ wx u base, Is' wx base u ([a].map sof) → Calls Try.prog 38 #[.int .i64 39, .int .i64 p, .int .i64 q, u] wx fun e w' => e = .returned (.tuple #[.int .i64 s, .int .i64 0]) ∧ Below wx.heap.size wx w') := fun wx u base hi => by
  have := vsort_any (op := 39) (p := p) (q := q) hi (by simp) (by simp)
  rw [show [a].map sof = [sof a] from rfl, hs] at this; exact this
 have HME : Hid _ := fun wx => mean_39 (p := p) (q := q) wx
 have HCL : Hid (∀ wx bo0 bo1, Below w.heap.size w wx → wx.cell? ⟨bo0, 0, none⟩ = some (.int .i64 p) → bo0 < wx.heap.size → wx.cell? ⟨bo1, 0, none⟩ = some (.int .i64 q) → bo1 < wx.heap.size → Calls Try.prog 67 #[.slice (some ⟨g, o, none⟩) 1 c, .pointer (some ⟨bo0, 0, none⟩), .pointer (some ⟨bo1, 0, none⟩)] wx fun e w' => e = .returned (.tuple #[.agg #[.int .i64 r.w, .int .u64 r.lo, .int .u64 r.hi], .int .i64 er]) ∧ Below wx.heap.size wx w') := fun wx bo0 bo1 hb hc0 hl0 hc1 hl1 => cl_7 (hLb wx hb) (Nat.lt_of_lt_of_le hg hb.size) hc0 hl0 hc1 hl1 HT
 have hfd : ∀ wx bo0 bo1, (Instr.field 95 (.agg #[.func (.func 67) #[] #[.pointer (some ⟨bo0, 0, none⟩), .pointer (some ⟨bo1, 0, none⟩)]]) 0).run Try.prog wx = .ok (.func (.func 67) #[] #[.pointer (some ⟨bo0, 0, none⟩), .pointer (some ⟨bo1, 0, none⟩)]) wx := fun wx bo0 bo1 => fld _ rfl wx
 clear h hka hs hLb
 go_enter Try.func51, Try.ntmps51
 go_wp2_with fail
 refine Calls.mono (HSO.out _ (by go_grown)) ?_
 rintro e w1 ⟨u, rfl, hI, hb⟩
 have HI : Hid _ := hI
 have hB : Below w.heap.size w w1 := Below.trans (by go_grown) (hb.mono (by simp))
 have hr : w1.heap[w.heap.size]? = some (.cells #[.int .i64 0, .int .u64 0, .int .u64 0] 25) := (hb.block _ (by simp)).trans (heap_alloc_new w _)
 have HR : Hid _ := hr
 clear hb hI hr
 go_wp2_with fail
 refine Calls.mono (HVS.out _ _ _ HI.out) ?_
 rintro e w2 ⟨rfl, hb⟩
 have hB2 : Below w.heap.size w w2 := hB.trans (hb.mono hB.size)
 have HR2 : Hid _ := (hb.block _ (Array.getElem?_eq_some_iff.1 HR.out).1).trans HR.out
 clear hb HI HR hB
 go_wp2_with fail
 refine Calls.mono (HME.out _) ?_
 rintro e w3 ⟨rfl, hb, hsz, hc0, hc1⟩
 have hB3 : Below w.heap.size w w3 := hB2.trans (hb.mono hB2.size)
 have HR3 : Hid _ := (hb.block _ (Array.getElem?_eq_some_iff.1 HR2.out).1).trans HR2.out
 have HC0 : Hid _ := hc0
 have HC1 : Hid _ := hc1
 clear hc0 hc1
 clear hb HR2 hB2
 go_wp2_with fail
 refine Calls.mono (HCL.out _ _ _ hB3 HC0.out (by omega) HC1.out (by omega)) ?_
 rintro e w4 ⟨rfl, hb⟩
 have hB4 : Below w.heap.size w w4 := hB3.trans (hb.mono hB3.size)
 have hr4 : w4.heap[w.heap.size]? = _ := (hb.block _ (Array.getElem?_eq_some_iff.1 HR3.out).1).trans HR3.out
 have t0 : w4.cell? ⟨w.heap.size, 0, none⟩ = some (.int .i64 0) := cell_of hr4 0 rfl
 have t1 : w4.cell? ⟨w.heap.size, 1, none⟩ = some (.int .u64 0) := cell_of hr4 1 rfl
 have t2 : w4.cell? ⟨w.heap.size, 2, none⟩ = some (.int .u64 0) := cell_of hr4 2 rfl
 have tf : ∀ j, w4.frozen? ⟨w.heap.size, j, none⟩ = false := fun j => by simp [World.frozen?, hr4]
 clear hb HR3 hr4 hB3
 go_wp2_with fail
 refine bodyPost_ret (v := .tuple #[.agg #[.int .i64 r.w, .int .u64 r.lo, .int .u64 r.hi], .int .i64 er]) (by simp [results, Try.results51, go_sem, t0, t1, t2]) rfl ?_
 exact ⟨rfl, by go_grown⟩
theorem mean_40 {p q : Int} (w : World) :
  Calls Try.prog 54 #[.int .i64 40, .int .i64 p, .int .i64 q] w fun e w' => e = .returned (.agg #[.func (.func 69) #[] #[.pointer (some ⟨w.heap.size + 1, 0, none⟩), .pointer (some ⟨w.heap.size, 0, none⟩)]]) ∧ Below w.heap.size w w' ∧ w.heap.size + 3 < w'.heap.size ∧ w'.cell? ⟨w.heap.size + 1, 0, none⟩ = some (.int .i64 p) ∧ w'.cell? ⟨w.heap.size, 0, none⟩ = some (.int .i64 40) := by
 have hmf := mkf
 have hsf := stf
 go_enter Try.func54, Try.ntmps54
 go_wp2_with fail
 refine bodyPost_ret (v := .agg #[.func (.func 69) #[] #[.pointer (some ⟨w.heap.size + 1, 0, none⟩), .pointer (some ⟨w.heap.size, 0, none⟩)]]) (by simp [results, Try.results54, go_sem]) rfl ?_
 refine ⟨rfl, by go_grown, (by first | (simp; done) | (simp; omega)), ?_, ?_⟩
 ·have hn := heap_alloc_new (w.alloc (.cells #[.int .i64 40] 3)) (.cells #[.int .i64 p] 3)
  rw [size_alloc'] at hn
  refine (World.cell?_of_block ?_).trans (cell_of hn 0 rfl)
  exact (heap_alloc_old _ _ (by first | (simp; done) | (simp; omega))).trans (heap_alloc_old _ _ (by simp))
 ·refine (World.cell?_of_block ?_).trans (cell_of (heap_alloc_new w (.cells #[.int .i64 40] 3)) 0 rfl)
  exact (heap_alloc_old _ _ (by first | (simp; done) | (simp; omega))).trans ((heap_alloc_old _ _ (by first | (simp; done) | (simp; omega))).trans (heap_alloc_old _ _ (by simp)))
theorem apply_40 {w : World} {g o c : Nat} {a r : Bt} {p q s er : Int} (h : Lb w g o [a]) (hg : g < w.heap.size) (hka : Bk a) (hs : srtF 40 p q [sof a] = (s, 0))
  (HT : Hid (∀ wx, Calls Try.prog 70 #[.agg #[.int .i64 a.w, .int .u64 a.lo, .int .u64 a.hi], .int .i64 p, .bool false] wx fun e w' => e = .returned (.tuple #[.agg #[.int .i64 r.w, .int .u64 r.lo, .int .u64 r.hi], .int .i64 er]) ∧ Below wx.heap.size wx w')) :
  Calls Try.prog 51 #[.int .i64 40, .int .i64 p, .int .i64 q, .slice (some ⟨g, o, none⟩) 1 c] w fun e w' => e = .returned (.tuple #[.agg #[.int .i64 r.w, .int .u64 r.lo, .int .u64 r.hi], .int .i64 er]) ∧ Below w.heap.size w w' := by
 have hLb : ∀ wx, Below w.heap.size w wx → Lb wx g o [a] := fun wx hb j x hj t u hu => by rw [hb.cell (p := ⟨g, o + j * 3 + t, none⟩) hg]; exact h j x hj t u hu
 have HSO : Hid (∀ wx, Below w.heap.size w wx → Calls Try.prog 53 #[.slice (some ⟨g, o, none⟩) 1 c] wx fun e w' => ∃ u, e = .returned u ∧ Is' w' wx.heap.size u ([a].map sof) ∧ Below wx.heap.size wx w') := fun wx hb => sorts_any (l := [a]) (hLb wx hb) (Nat.lt_of_lt_of_le hg hb.size) (fun x hx => by rw [List.mem_singleton.1 hx]; exact hka) (by simp)
 have HVS : Hid (∀ wx u base, Is' wx base u ([a].map sof) → Calls Try.prog 38 #[.int .i64 40, .int .i64 p, .int .i64 q, u] wx fun e w' => e = .returned (.tuple #[.int .i64 s, .int .i64 0]) ∧ Below wx.heap.size wx w') := fun wx u base hi => by
  have := vsort_any (op := 40) (p := p) (q := q) hi (by simp) (by simp)
  rw [show [a].map sof = [sof a] from rfl, hs] at this; exact this
 have HME : Hid _ := fun wx => mean_40 (p := p) (q := q) wx
 have HCL : Hid (∀ wx bo0 bo1, Below w.heap.size w wx → wx.cell? ⟨bo0, 0, none⟩ = some (.int .i64 p) → bo0 < wx.heap.size → wx.cell? ⟨bo1, 0, none⟩ = some (.int .i64 40) → bo1 < wx.heap.size → Calls Try.prog 69 #[.slice (some ⟨g, o, none⟩) 1 c, .pointer (some ⟨bo0, 0, none⟩), .pointer (some ⟨bo1, 0, none⟩)] wx fun e w' => e = .returned (.tuple #[.agg #[.int .i64 r.w, .int .u64 r.lo, .int .u64 r.hi], .int .i64 er]) ∧ Below wx.heap.size wx w') := fun wx bo0 bo1 hb hc0 hl0 hc1 hl1 => cl_8 (hLb wx hb) (Nat.lt_of_lt_of_le hg hb.size) hc0 hl0 hc1 hl1 rfl HT
 have hfd : ∀ wx bo0 bo1, (Instr.field 95 (.agg #[.func (.func 69) #[] #[.pointer (some ⟨bo0, 0, none⟩), .pointer (some ⟨bo1, 0, none⟩)]]) 0).run Try.prog wx = .ok (.func (.func 69) #[] #[.pointer (some ⟨bo0, 0, none⟩), .pointer (some ⟨bo1, 0, none⟩)]) wx := fun wx bo0 bo1 => fld _ rfl wx
 clear h hka hs hLb
 go_enter Try.func51, Try.ntmps51
 go_wp2_with fail
 refine Calls.mono (HSO.out _ (by go_grown)) ?_
 rintro e w1 ⟨u, rfl, hI, hb⟩
 have HI : Hid _ := hI
 have hB : Below w.heap.size w w1 := Below.trans (by go_grown) (hb.mono (by simp))
 have hr : w1.heap[w.heap.size]? = some (.cells #[.int .i64 0, .int .u64 0, .int .u64 0] 25) := (hb.block _ (by simp)).trans (heap_alloc_new w _)
 have HR : Hid _ := hr
 clear hb hI hr
 go_wp2_with fail
 refine Calls.mono (HVS.out _ _ _ HI.out) ?_
 rintro e w2 ⟨rfl, hb⟩
 have hB2 : Below w.heap.size w w2 := hB.trans (hb.mono hB.size)
 have HR2 : Hid _ := (hb.block _ (Array.getElem?_eq_some_iff.1 HR.out).1).trans HR.out
 clear hb HI HR hB
 go_wp2_with fail
 refine Calls.mono (HME.out _) ?_
 rintro e w3 ⟨rfl, hb, hsz, hc0, hc1⟩
 have hB3 : Below w.heap.size w w3 := hB2.trans (hb.mono hB2.size)
 have HR3 : Hid _ := (hb.block _ (Array.getElem?_eq_some_iff.1 HR2.out).1).trans HR2.out
 have HC0 : Hid _ := hc0
 have HC1 : Hid _ := hc1
 clear hc0 hc1
 clear hb HR2 hB2
 go_wp2_with fail
 refine Calls.mono (HCL.out _ _ _ hB3 HC0.out (by omega) HC1.out (by omega)) ?_
 rintro e w4 ⟨rfl, hb⟩
 have hB4 : Below w.heap.size w w4 := hB3.trans (hb.mono hB3.size)
 have hr4 : w4.heap[w.heap.size]? = _ := (hb.block _ (Array.getElem?_eq_some_iff.1 HR3.out).1).trans HR3.out
 have t0 : w4.cell? ⟨w.heap.size, 0, none⟩ = some (.int .i64 0) := cell_of hr4 0 rfl
 have t1 : w4.cell? ⟨w.heap.size, 1, none⟩ = some (.int .u64 0) := cell_of hr4 1 rfl
 have t2 : w4.cell? ⟨w.heap.size, 2, none⟩ = some (.int .u64 0) := cell_of hr4 2 rfl
 have tf : ∀ j, w4.frozen? ⟨w.heap.size, j, none⟩ = false := fun j => by simp [World.frozen?, hr4]
 clear hb HR3 hr4 hB3
 go_wp2_with fail
 refine bodyPost_ret (v := .tuple #[.agg #[.int .i64 r.w, .int .u64 r.lo, .int .u64 r.hi], .int .i64 er]) (by simp [results, Try.results51, go_sem, t0, t1, t2]) rfl ?_
 exact ⟨rfl, by go_grown⟩
theorem mean_41 {p q : Int} (w : World) :
  Calls Try.prog 54 #[.int .i64 41, .int .i64 p, .int .i64 q] w fun e w' => e = .returned (.agg #[.func (.func 69) #[] #[.pointer (some ⟨w.heap.size + 1, 0, none⟩), .pointer (some ⟨w.heap.size, 0, none⟩)]]) ∧ Below w.heap.size w w' ∧ w.heap.size + 3 < w'.heap.size ∧ w'.cell? ⟨w.heap.size + 1, 0, none⟩ = some (.int .i64 p) ∧ w'.cell? ⟨w.heap.size, 0, none⟩ = some (.int .i64 41) := by
 have hmf := mkf
 have hsf := stf
 go_enter Try.func54, Try.ntmps54
 go_wp2_with fail
 refine bodyPost_ret (v := .agg #[.func (.func 69) #[] #[.pointer (some ⟨w.heap.size + 1, 0, none⟩), .pointer (some ⟨w.heap.size, 0, none⟩)]]) (by simp [results, Try.results54, go_sem]) rfl ?_
 refine ⟨rfl, by go_grown, (by first | (simp; done) | (simp; omega)), ?_, ?_⟩
 ·have hn := heap_alloc_new (w.alloc (.cells #[.int .i64 41] 3)) (.cells #[.int .i64 p] 3)
  rw [size_alloc'] at hn
  refine (World.cell?_of_block ?_).trans (cell_of hn 0 rfl)
  exact (heap_alloc_old _ _ (by first | (simp; done) | (simp; omega))).trans (heap_alloc_old _ _ (by simp))
 ·refine (World.cell?_of_block ?_).trans (cell_of (heap_alloc_new w (.cells #[.int .i64 41] 3)) 0 rfl)
  exact (heap_alloc_old _ _ (by first | (simp; done) | (simp; omega))).trans ((heap_alloc_old _ _ (by first | (simp; done) | (simp; omega))).trans (heap_alloc_old _ _ (by simp)))
theorem apply_41 {w : World} {g o c : Nat} {a r : Bt} {p q s er : Int} (h : Lb w g o [a]) (hg : g < w.heap.size) (hka : Bk a) (hs : srtF 41 p q [sof a] = (s, 0))
  (HT : Hid (∀ wx, Calls Try.prog 70 #[.agg #[.int .i64 a.w, .int .u64 a.lo, .int .u64 a.hi], .int .i64 p, .bool true] wx fun e w' => e = .returned (.tuple #[.agg #[.int .i64 r.w, .int .u64 r.lo, .int .u64 r.hi], .int .i64 er]) ∧ Below wx.heap.size wx w')) :
  Calls Try.prog 51 #[.int .i64 41, .int .i64 p, .int .i64 q, .slice (some ⟨g, o, none⟩) 1 c] w fun e w' => e = .returned (.tuple #[.agg #[.int .i64 r.w, .int .u64 r.lo, .int .u64 r.hi], .int .i64 er]) ∧ Below w.heap.size w w' := by
 have hLb : ∀ wx, Below w.heap.size w wx → Lb wx g o [a] := fun wx hb j x hj t u hu => by rw [hb.cell (p := ⟨g, o + j * 3 + t, none⟩) hg]; exact h j x hj t u hu
 have HSO : Hid (∀ wx, Below w.heap.size w wx → Calls Try.prog 53 #[.slice (some ⟨g, o, none⟩) 1 c] wx fun e w' => ∃ u, e = .returned u ∧ Is' w' wx.heap.size u ([a].map sof) ∧ Below wx.heap.size wx w') := fun wx hb => sorts_any (l := [a]) (hLb wx hb) (Nat.lt_of_lt_of_le hg hb.size) (fun x hx => by rw [List.mem_singleton.1 hx]; exact hka) (by simp)
 have HVS : Hid (∀ wx u base, Is' wx base u ([a].map sof) → Calls Try.prog 38 #[.int .i64 41, .int .i64 p, .int .i64 q, u] wx fun e w' => e = .returned (.tuple #[.int .i64 s, .int .i64 0]) ∧ Below wx.heap.size wx w') := fun wx u base hi => by
  have := vsort_any (op := 41) (p := p) (q := q) hi (by simp) (by simp)
  rw [show [a].map sof = [sof a] from rfl, hs] at this; exact this
 have HME : Hid _ := fun wx => mean_41 (p := p) (q := q) wx
 have HCL : Hid (∀ wx bo0 bo1, Below w.heap.size w wx → wx.cell? ⟨bo0, 0, none⟩ = some (.int .i64 p) → bo0 < wx.heap.size → wx.cell? ⟨bo1, 0, none⟩ = some (.int .i64 41) → bo1 < wx.heap.size → Calls Try.prog 69 #[.slice (some ⟨g, o, none⟩) 1 c, .pointer (some ⟨bo0, 0, none⟩), .pointer (some ⟨bo1, 0, none⟩)] wx fun e w' => e = .returned (.tuple #[.agg #[.int .i64 r.w, .int .u64 r.lo, .int .u64 r.hi], .int .i64 er]) ∧ Below wx.heap.size wx w') := fun wx bo0 bo1 hb hc0 hl0 hc1 hl1 => cl_8 (hLb wx hb) (Nat.lt_of_lt_of_le hg hb.size) hc0 hl0 hc1 hl1 rfl HT
 have hfd : ∀ wx bo0 bo1, (Instr.field 95 (.agg #[.func (.func 69) #[] #[.pointer (some ⟨bo0, 0, none⟩), .pointer (some ⟨bo1, 0, none⟩)]]) 0).run Try.prog wx = .ok (.func (.func 69) #[] #[.pointer (some ⟨bo0, 0, none⟩), .pointer (some ⟨bo1, 0, none⟩)]) wx := fun wx bo0 bo1 => fld _ rfl wx
 clear h hka hs hLb
 go_enter Try.func51, Try.ntmps51
 go_wp2_with fail
 refine Calls.mono (HSO.out _ (by go_grown)) ?_
 rintro e w1 ⟨u, rfl, hI, hb⟩
 have HI : Hid _ := hI
 have hB : Below w.heap.size w w1 := Below.trans (by go_grown) (hb.mono (by simp))
 have hr : w1.heap[w.heap.size]? = some (.cells #[.int .i64 0, .int .u64 0, .int .u64 0] 25) := (hb.block _ (by simp)).trans (heap_alloc_new w _)
 have HR : Hid _ := hr
 clear hb hI hr
 go_wp2_with fail
 refine Calls.mono (HVS.out _ _ _ HI.out) ?_
 rintro e w2 ⟨rfl, hb⟩
 have hB2 : Below w.heap.size w w2 := hB.trans (hb.mono hB.size)
 have HR2 : Hid _ := (hb.block _ (Array.getElem?_eq_some_iff.1 HR.out).1).trans HR.out
 clear hb HI HR hB
 go_wp2_with fail
 refine Calls.mono (HME.out _) ?_
 rintro e w3 ⟨rfl, hb, hsz, hc0, hc1⟩
 have hB3 : Below w.heap.size w w3 := hB2.trans (hb.mono hB2.size)
 have HR3 : Hid _ := (hb.block _ (Array.getElem?_eq_some_iff.1 HR2.out).1).trans HR2.out
 have HC0 : Hid _ := hc0
 have HC1 : Hid _ := hc1
 clear hc0 hc1
 clear hb HR2 hB2
 go_wp2_with fail
 refine Calls.mono (HCL.out _ _ _ hB3 HC0.out (by omega) HC1.out (by omega)) ?_
 rintro e w4 ⟨rfl, hb⟩
 have hB4 : Below w.heap.size w w4 := hB3.trans (hb.mono hB3.size)
 have hr4 : w4.heap[w.heap.size]? = _ := (hb.block _ (Array.getElem?_eq_some_iff.1 HR3.out).1).trans HR3.out
 have t0 : w4.cell? ⟨w.heap.size, 0, none⟩ = some (.int .i64 0) := cell_of hr4 0 rfl
 have t1 : w4.cell? ⟨w.heap.size, 1, none⟩ = some (.int .u64 0) := cell_of hr4 1 rfl
 have t2 : w4.cell? ⟨w.heap.size, 2, none⟩ = some (.int .u64 0) := cell_of hr4 2 rfl
 have tf : ∀ j, w4.frozen? ⟨w.heap.size, j, none⟩ = false := fun j => by simp [World.frozen?, hr4]
 clear hb HR3 hr4 hB3
 go_wp2_with fail
 refine bodyPost_ret (v := .tuple #[.agg #[.int .i64 r.w, .int .u64 r.lo, .int .u64 r.hi], .int .i64 er]) (by simp [results, Try.results51, go_sem, t0, t1, t2]) rfl ?_
 exact ⟨rfl, by go_grown⟩
end Go.Proofs.Ytedldoobmmhloaa
