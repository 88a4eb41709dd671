import Derived.Test.YtedldoobmmhloaaEA10
namespace Go.Proofs.Ytedldoobmmhloaa
set_option maxHeartbeats 12800000
set_option maxRecDepth 100000
open Go.RowKit
set_option linter.unusedSimpArgs false
set_option linter.unusedVariables false
theorem of_bools1 (w : World) :
  Calls Try.prog 56 #[(.func (.func 57) #[] #[])] w fun e w' => e = .returned (.agg #[.func (.func 78) #[] #[.pointer (some ⟨w.heap.size, 0, none⟩)]]) ∧ Below w.heap.size w w' ∧ w'.cell? ⟨w.heap.size, 0, none⟩ = some (.func (.func 57) #[] #[]) ∧ w.heap.size < w'.heap.size := by
 have hmf := mkf
 have hsf := stf
 go_enter Try.func56, Try.ntmps56
 go_wp2_with fail
 refine bodyPost_ret (v := .agg #[.func (.func 78) #[] #[.pointer (some ⟨w.heap.size, 0, none⟩)]]) (by simp [results, Try.results56, go_sem]) rfl ?_
 exact ⟨rfl, by go_grown, by simp [go_sem], by simp; omega⟩
theorem mean_and {p q : Int} (w : World) :
  Calls Try.prog 54 #[.int .i64 4, .int .i64 p, .int .i64 q] w fun e w' => ∃ bo, e = .returned (.agg #[.func (.func 78) #[] #[.pointer (some ⟨bo, 0, none⟩)]]) ∧ Below w.heap.size w w' ∧ w'.cell? ⟨bo, 0, none⟩ = some (.func (.func 57) #[] #[]) ∧ bo < w'.heap.size := by
 have hsf := stf
 have HO : Hid (∀ wx, Calls Try.prog 56 #[(.func (.func 57) #[] #[])] wx fun e w' => ∃ bo, e = .returned (.agg #[.func (.func 78) #[] #[.pointer (some ⟨bo, 0, none⟩)]]) ∧ Below wx.heap.size wx w' ∧ w'.cell? ⟨bo, 0, none⟩ = some (.func (.func 57) #[] #[]) ∧ bo < w'.heap.size ∧ wx.heap.size ≤ bo) := fun wx => Calls.mono (of_bools1 wx) (fun e w' ⟨h1, h2, h3, h4⟩ => ⟨_, h1, h2, h3, h4, Nat.le_refl _⟩)
 go_enter Try.func54, Try.ntmps54
 go_wp2_with fail
 refine Calls.mono (HO.out _) ?_
 rintro e w1 ⟨bo, rfl, hb, hc, hl, hge⟩
 have hr1 : w1.heap[w.heap.size + 1 + 1 + 1]? = some (.cells #[.nilFunc] 95) := by
  have h1 := heap_alloc_new (((w.alloc (.cells #[.int .i64 4] 3)).alloc (.cells #[.int .i64 p] 3)).alloc (.cells #[.int .i64 q] 3)) (.cells #[.nilFunc] 95)
  simp only [size_alloc'] at h1
  exact (hb.block _ (by simp only [size_alloc']; omega)).trans h1
 have r0 : w1.cell? ⟨w.heap.size + 1 + 1 + 1, 0, none⟩ = some .nilFunc := cell_of hr1 0 rfl
 have rf : ∀ j, w1.frozen? ⟨w.heap.size + 1 + 1 + 1, j, none⟩ = false := fun j => by simp [World.frozen?, hr1]
 have rS : (w1.setCell ⟨w.heap.size + 1 + 1 + 1, 0, none⟩ (.func (.func 78) #[] #[.pointer (some ⟨bo, 0, none⟩)])).cell? ⟨w.heap.size + 1 + 1 + 1, 0, none⟩ = some (.func (.func 78) #[] #[.pointer (some ⟨bo, 0, none⟩)]) := cell_of (heap_setCell_same w1 _ 0 _ _ _ hr1) 0 rfl
 have hB : Below w.heap.size w w1 := Below.trans (by go_grown) (hb.mono (by simp; omega))
 simp only [size_alloc'] at hge
 have hne : bo ≠ w.heap.size + 1 + 1 + 1 := by omega
 clear hb hge hr1
 go_wp2_with fail
 refine bodyPost_ret (v := .agg #[.func (.func 78) #[] #[.pointer (some ⟨bo, 0, none⟩)]]) (by simp [results, Try.results54, go_sem, rS]) rfl ?_
 refine ⟨bo, rfl, by go_grown, ?_, by simpa using hl⟩
 refine (World.cell?_of_block ?_).trans hc
 exact heap_setCell_other _ _ _ _ hne
theorem apply_and {w : World} {g o c : Nat} {a b : Bt} {p q s : Int} (h : Lb w g o [a, b]) (hg : g < w.heap.size) (hka : Bk a) (hkb : Bk b) (hs : srtF 4 p q [sof a, sof b] = (s, 0)) :
  Calls Try.prog 51 #[.int .i64 4, .int .i64 p, .int .i64 q, .slice (some ⟨g, o, none⟩) 2 c] w fun e w' => e = .returned (.tuple #[.agg #[.int .i64 (bT (tru a && tru b)).w, .int .u64 (bT (tru a && tru b)).lo, .int .u64 (bT (tru a && tru b)).hi], .int .i64 0]) ∧ Below w.heap.size w w' := by
 have hLb : ∀ wx, Below w.heap.size w wx → Lb wx g o [a, b] := fun wx hb j x hj t u hu => by rw [hb.cell (p := ⟨g, o + j * 3 + t, none⟩) hg]; exact h j x hj t u hu
 have HSO : Hid (∀ wx, Below w.heap.size w wx → Calls Try.prog 53 #[.slice (some ⟨g, o, none⟩) 2 c] wx fun e w' => ∃ u, e = .returned u ∧ Is' w' wx.heap.size u ([a, b].map sof) ∧ Below wx.heap.size wx w') := fun wx hb => sorts_any (l := [a, b]) (hLb wx hb) (Nat.lt_of_lt_of_le hg hb.size) (fun x hx => by
  rcases List.mem_cons.1 hx with rfl | hx
  ·exact hka
  ·rw [List.mem_singleton.1 hx]; exact hkb) (by simp)
 have HVS : Hid (∀ wx u base, Is' wx base u ([a, b].map sof) → Calls Try.prog 38 #[.int .i64 4, .int .i64 p, .int .i64 q, u] wx fun e w' => e = .returned (.tuple #[.int .i64 s, .int .i64 0]) ∧ Below wx.heap.size wx w') := fun wx u base hi => by
  have := vsort_any (op := 4) (p := p) (q := q) hi (by simp) (by simp)
  rw [show [a, b].map sof = [sof a, sof b] from rfl, hs] at this; exact this
 obtain ⟨r, hr⟩ : ∃ r, r = (bT (tru a && tru b)) := ⟨_, rfl⟩
 have HME : Hid _ := fun wx => mean_and (p := p) (q := q) wx
 have HCL : Hid (∀ wx bo, Below w.heap.size w wx → wx.cell? ⟨bo, 0, none⟩ = some (.func (.func 57) #[] #[]) → bo < wx.heap.size → Calls Try.prog 78 #[.slice (some ⟨g, o, none⟩) 2 c, .pointer (some ⟨bo, 0, none⟩)] wx fun e w' => e = .returned (.tuple #[.agg #[.int .i64 r.w, .int .u64 r.lo, .int .u64 r.hi], .int .i64 0]) ∧ Below wx.heap.size wx w') := fun wx bo hb hc hl => by rw [hr]; exact bools_cl1 (hLb wx hb) (Nat.lt_of_lt_of_le hg hb.size) hc hl (fun wy => f_and _ _ wy)
 have hfd : ∀ wx bo, (Instr.field 95 (.agg #[.func (.func 78) #[] #[.pointer (some ⟨bo, 0, none⟩)]]) 0).run Try.prog wx = .ok (.func (.func 78) #[] #[.pointer (some ⟨bo, 0, none⟩)]) wx := fun wx bo => fld _ rfl wx
 rw [← hr]
 clear h hka hkb hs hLb hr
 go_enter Try.func51, Try.ntmps51
 go_wp2_with fail
 refine Calls.mono (HSO.out _ (by go_grown)) ?_
 rintro e w1 ⟨u, rfl, hI, hb⟩
 have HI : Hid _ := hI
 have hB : Below w.heap.size w w1 := Below.trans (by go_grown) (hb.mono (by simp))
 have hr : w1.heap[w.heap.size]? = some (.cells #[.int .i64 0, .int .u64 0, .int .u64 0] 25) := (hb.block _ (by simp)).trans (heap_alloc_new w _)
 have HR : Hid _ := hr
 clear hb hI hr
 go_wp2_with fail
 refine Calls.mono (HVS.out _ _ _ HI.out) ?_
 rintro e w2 ⟨rfl, hb⟩
 have hB2 : Below w.heap.size w w2 := hB.trans (hb.mono hB.size)
 have HR2 : Hid _ := (hb.block _ (Array.getElem?_eq_some_iff.1 HR.out).1).trans HR.out
 clear hb HI HR hB
 go_wp2_with fail
 refine Calls.mono (HME.out _) ?_
 rintro e w3 ⟨bo, rfl, hb, hcell, hlt⟩
 have hB3 : Below w.heap.size w w3 := hB2.trans (hb.mono hB2.size)
 have HR3 : Hid _ := (hb.block _ (Array.getElem?_eq_some_iff.1 HR2.out).1).trans HR2.out
 have HCE : Hid _ := hcell
 clear hb HR2 hcell hB2
 go_wp2_with fail
 refine Calls.mono (HCL.out _ _ hB3 HCE.out hlt) ?_
 rintro e w4 ⟨rfl, hb⟩
 have hB4 : Below w.heap.size w w4 := hB3.trans (hb.mono hB3.size)
 have hr4 : w4.heap[w.heap.size]? = _ := (hb.block _ (Array.getElem?_eq_some_iff.1 HR3.out).1).trans HR3.out
 have t0 : w4.cell? ⟨w.heap.size, 0, none⟩ = some (.int .i64 0) := cell_of hr4 0 rfl
 have t1 : w4.cell? ⟨w.heap.size, 1, none⟩ = some (.int .u64 0) := cell_of hr4 1 rfl
 have t2 : w4.cell? ⟨w.heap.size, 2, none⟩ = some (.int .u64 0) := cell_of hr4 2 rfl
 have tf : ∀ j, w4.frozen? ⟨w.heap.size, j, none⟩ = false := fun j => by simp [World.frozen?, hr4]
 clear hb HR3 hr4 hB3
 go_wp2_with fail
 refine bodyPost_ret (v := .tuple #[.agg #[.int .i64 r.w, .int .u64 r.lo, .int .u64 r.hi], .int .i64 0]) (by simp [results, Try.results51, go_sem, t0, t1, t2]) rfl ?_
 exact ⟨rfl, by go_grown⟩
theorem of_bools2 (w : World) :
  Calls Try.prog 56 #[(.func (.func 58) #[] #[])] w fun e w' => e = .returned (.agg #[.func (.func 78) #[] #[.pointer (some ⟨w.heap.size, 0, none⟩)]]) ∧ Below w.heap.size w w' ∧ w'.cell? ⟨w.heap.size, 0, none⟩ = some (.func (.func 58) #[] #[]) ∧ w.heap.size < w'.heap.size := by
 have hmf := mkf
 have hsf := stf
 go_enter Try.func56, Try.ntmps56
 go_wp2_with fail
 refine bodyPost_ret (v := .agg #[.func (.func 78) #[] #[.pointer (some ⟨w.heap.size, 0, none⟩)]]) (by simp [results, Try.results56, go_sem]) rfl ?_
 exact ⟨rfl, by go_grown, by simp [go_sem], by simp; omega⟩
theorem mean_or {p q : Int} (w : World) :
  Calls Try.prog 54 #[.int .i64 5, .int .i64 p, .int .i64 q] w fun e w' => ∃ bo, e = .returned (.agg #[.func (.func 78) #[] #[.pointer (some ⟨bo, 0, none⟩)]]) ∧ Below w.heap.size w w' ∧ w'.cell? ⟨bo, 0, none⟩ = some (.func (.func 58) #[] #[]) ∧ bo < w'.heap.size := by
 have hsf := stf
 have HO : Hid (∀ wx, Calls Try.prog 56 #[(.func (.func 58) #[] #[])] wx fun e w' => ∃ bo, e = .returned (.agg #[.func (.func 78) #[] #[.pointer (some ⟨bo, 0, none⟩)]]) ∧ Below wx.heap.size wx w' ∧ w'.cell? ⟨bo, 0, none⟩ = some (.func (.func 58) #[] #[]) ∧ bo < w'.heap.size ∧ wx.heap.size ≤ bo) := fun wx => Calls.mono (of_bools2 wx) (fun e w' ⟨h1, h2, h3, h4⟩ => ⟨_, h1, h2, h3, h4, Nat.le_refl _⟩)
 go_enter Try.func54, Try.ntmps54
 go_wp2_with fail
 refine Calls.mono (HO.out _) ?_
 rintro e w1 ⟨bo, rfl, hb, hc, hl, hge⟩
 have hr1 : w1.heap[w.heap.size + 1 + 1 + 1]? = some (.cells #[.nilFunc] 95) := by
  have h1 := heap_alloc_new (((w.alloc (.cells #[.int .i64 5] 3)).alloc (.cells #[.int .i64 p] 3)).alloc (.cells #[.int .i64 q] 3)) (.cells #[.nilFunc] 95)
  simp only [size_alloc'] at h1
  exact (hb.block _ (by simp only [size_alloc']; omega)).trans h1
 have r0 : w1.cell? ⟨w.heap.size + 1 + 1 + 1, 0, none⟩ = some .nilFunc := cell_of hr1 0 rfl
 have rf : ∀ j, w1.frozen? ⟨w.heap.size + 1 + 1 + 1, j, none⟩ = false := fun j => by simp [World.frozen?, hr1]
 have rS : (w1.setCell ⟨w.heap.size + 1 + 1 + 1, 0, none⟩ (.func (.func 78) #[] #[.pointer (some ⟨bo, 0, none⟩)])).cell? ⟨w.heap.size + 1 + 1 + 1, 0, none⟩ = some (.func (.func 78) #[] #[.pointer (some ⟨bo, 0, none⟩)]) := cell_of (heap_setCell_same w1 _ 0 _ _ _ hr1) 0 rfl
 have hB : Below w.heap.size w w1 := Below.trans (by go_grown) (hb.mono (by simp; omega))
 simp only [size_alloc'] at hge
 have hne : bo ≠ w.heap.size + 1 + 1 + 1 := by omega
 clear hb hge hr1
 go_wp2_with fail
 refine bodyPost_ret (v := .agg #[.func (.func 78) #[] #[.pointer (some ⟨bo, 0, none⟩)]]) (by simp [results, Try.results54, go_sem, rS]) rfl ?_
 refine ⟨bo, rfl, by go_grown, ?_, by simpa using hl⟩
 refine (World.cell?_of_block ?_).trans hc
 exact heap_setCell_other _ _ _ _ hne
theorem apply_or {w : World} {g o c : Nat} {a b : Bt} {p q s : Int} (h : Lb w g o [a, b]) (hg : g < w.heap.size) (hka : Bk a) (hkb : Bk b) (hs : srtF 5 p q [sof a, sof b] = (s, 0)) :
  Calls Try.prog 51 #[.int .i64 5, .int .i64 p, .int .i64 q, .slice (some ⟨g, o, none⟩) 2 c] w fun e w' => e = .returned (.tuple #[.agg #[.int .i64 (bT (tru a || tru b)).w, .int .u64 (bT (tru a || tru b)).lo, .int .u64 (bT (tru a || tru b)).hi], .int .i64 0]) ∧ Below w.heap.size w w' := by
 have hLb : ∀ wx, Below w.heap.size w wx → Lb wx g o [a, b] := fun wx hb j x hj t u hu => by rw [hb.cell (p := ⟨g, o + j * 3 + t, none⟩) hg]; exact h j x hj t u hu
 have HSO : Hid (∀ wx, Below w.heap.size w wx → Calls Try.prog 53 #[.slice (some ⟨g, o, none⟩) 2 c] wx fun e w' => ∃ u, e = .returned u ∧ Is' w' wx.heap.size u ([a, b].map sof) ∧ Below wx.heap.size wx w') := fun wx hb => sorts_any (l := [a, b]) (hLb wx hb) (Nat.lt_of_lt_of_le hg hb.size) (fun x hx => by
  rcases List.mem_cons.1 hx with rfl | hx
  ·exact hka
  ·rw [List.mem_singleton.1 hx]; exact hkb) (by simp)
 have HVS : Hid (∀ wx u base, Is' wx base u ([a, b].map sof) → Calls Try.prog 38 #[.int .i64 5, .int .i64 p, .int .i64 q, u] wx fun e w' => e = .returned (.tuple #[.int .i64 s, .int .i64 0]) ∧ Below wx.heap.size wx w') := fun wx u base hi => by
  have := vsort_any (op := 5) (p := p) (q := q) hi (by simp) (by simp)
  rw [show [a, b].map sof = [sof a, sof b] from rfl, hs] at this; exact this
 obtain ⟨r, hr⟩ : ∃ r, r = (bT (tru a || tru b)) := ⟨_, rfl⟩
 have HME : Hid _ := fun wx => mean_or (p := p) (q := q) wx
 have HCL : Hid (∀ wx bo, Below w.heap.size w wx → wx.cell? ⟨bo, 0, none⟩ = some (.func (.func 58) #[] #[]) → bo < wx.heap.size → Calls Try.prog 78 #[.slice (some ⟨g, o, none⟩) 2 c, .pointer (some ⟨bo, 0, none⟩)] wx fun e w' => e = .returned (.tuple #[.agg #[.int .i64 r.w, .int .u64 r.lo, .int .u64 r.hi], .int .i64 0]) ∧ Below wx.heap.size wx w') := fun wx bo hb hc hl => by rw [hr]; exact bools_cl2 (hLb wx hb) (Nat.lt_of_lt_of_le hg hb.size) hc hl (fun wy => f_or _ _ wy)
 have hfd : ∀ wx bo, (Instr.field 95 (.agg #[.func (.func 78) #[] #[.pointer (some ⟨bo, 0, none⟩)]]) 0).run Try.prog wx = .ok (.func (.func 78) #[] #[.pointer (some ⟨bo, 0, none⟩)]) wx := fun wx bo => fld _ rfl wx
 rw [← hr]
 clear h hka hkb hs hLb hr
 go_enter Try.func51, Try.ntmps51
 go_wp2_with fail
 refine Calls.mono (HSO.out _ (by go_grown)) ?_
 rintro e w1 ⟨u, rfl, hI, hb⟩
 have HI : Hid _ := hI
 have hB : Below w.heap.size w w1 := Below.trans (by go_grown) (hb.mono (by simp))
 have hr : w1.heap[w.heap.size]? = some (.cells #[.int .i64 0, .int .u64 0, .int .u64 0] 25) := (hb.block _ (by simp)).trans (heap_alloc_new w _)
 have HR : Hid _ := hr
 clear hb hI hr
 go_wp2_with fail
 refine Calls.mono (HVS.out _ _ _ HI.out) ?_
 rintro e w2 ⟨rfl, hb⟩
 have hB2 : Below w.heap.size w w2 := hB.trans (hb.mono hB.size)
 have HR2 : Hid _ := (hb.block _ (Array.getElem?_eq_some_iff.1 HR.out).1).trans HR.out
 clear hb HI HR hB
 go_wp2_with fail
 refine Calls.mono (HME.out _) ?_
 rintro e w3 ⟨bo, rfl, hb, hcell, hlt⟩
 have hB3 : Below w.heap.size w w3 := hB2.trans (hb.mono hB2.size)
 have HR3 : Hid _ := (hb.block _ (Array.getElem?_eq_some_iff.1 HR2.out).1).trans HR2.out
 have HCE : Hid _ := hcell
 clear hb HR2 hcell hB2
 go_wp2_with fail
 refine Calls.mono (HCL.out _ _ hB3 HCE.out hlt) ?_
 rintro e w4 ⟨rfl, hb⟩
 have hB4 : Below w.heap.size w w4 := hB3.trans (hb.mono hB3.size)
 have hr4 : w4.heap[w.heap.size]? = _ := (hb.block _ (Array.getElem?_eq_some_iff.1 HR3.out).1).trans HR3.out
 have t0 : w4.cell? ⟨w.heap.size, 0, none⟩ = some (.int .i64 0) := cell_of hr4 0 rfl
 have t1 : w4.cell? ⟨w.heap.size, 1, none⟩ = some (.int .u64 0) := cell_of hr4 1 rfl
 have t2 : w4.cell? ⟨w.heap.size, 2, none⟩ = some (.int .u64 0) := cell_of hr4 2 rfl
 have tf : ∀ j, w4.frozen? ⟨w.heap.size, j, none⟩ = false := fun j => by simp [World.frozen?, hr4]
 clear hb HR3 hr4 hB3
 go_wp2_with fail
 refine bodyPost_ret (v := .tuple #[.agg #[.int .i64 r.w, .int .u64 r.lo, .int .u64 r.hi], .int .i64 0]) (by simp [results, Try.results51, go_sem, t0, t1, t2]) rfl ?_
 exact ⟨rfl, by go_grown⟩
theorem of_bools3 (w : World) :
  Calls Try.prog 56 #[(.func (.func 59) #[] #[])] w fun e w' => e = .returned (.agg #[.func (.func 78) #[] #[.pointer (some ⟨w.heap.size, 0, none⟩)]]) ∧ Below w.heap.size w w' ∧ w'.cell? ⟨w.heap.size, 0, none⟩ = some (.func (.func 59) #[] #[]) ∧ w.heap.size < w'.heap.size := by
 have hmf := mkf
 have hsf := stf
 go_enter Try.func56, Try.ntmps56
 go_wp2_with fail
 refine bodyPost_ret (v := .agg #[.func (.func 78) #[] #[.pointer (some ⟨w.heap.size, 0, none⟩)]]) (by simp [results, Try.results56, go_sem]) rfl ?_
 exact ⟨rfl, by go_grown, by simp [go_sem], by simp; omega⟩
theorem mean_xor {p q : Int} (w : World) :
  Calls Try.prog 54 #[.int .i64 6, .int .i64 p, .int .i64 q] w fun e w' => ∃ bo, e = .returned (.agg #[.func (.func 78) #[] #[.pointer (some ⟨bo, 0, none⟩)]]) ∧ Below w.heap.size w w' ∧ w'.cell? ⟨bo, 0, none⟩ = some (.func (.func 59) #[] #[]) ∧ bo < w'.heap.size := by
 have hsf := stf
 have HO : Hid (∀ wx, Calls Try.prog 56 #[(.func (.func 59) #[] #[])] wx fun e w' => ∃ bo, e = .returned (.agg #[.func (.func 78) #[] #[.pointer (some ⟨bo, 0, none⟩)]]) ∧ Below wx.heap.size wx w' ∧ w'.cell? ⟨bo, 0, none⟩ = some (.func (.func 59) #[] #[]) ∧ bo < w'.heap.size ∧ wx.heap.size ≤ bo) := fun wx => Calls.mono (of_bools3 wx) (fun e w' ⟨h1, h2, h3, h4⟩ => ⟨_, h1, h2, h3, h4, Nat.le_refl _⟩)
 go_enter Try.func54, Try.ntmps54
 go_wp2_with fail
 refine Calls.mono (HO.out _) ?_
 rintro e w1 ⟨bo, rfl, hb, hc, hl, hge⟩
 have hr1 : w1.heap[w.heap.size + 1 + 1 + 1]? = some (.cells #[.nilFunc] 95) := by
  have h1 := heap_alloc_new (((w.alloc (.cells #[.int .i64 6] 3)).alloc (.cells #[.int .i64 p] 3)).alloc (.cells #[.int .i64 q] 3)) (.cells #[.nilFunc] 95)
  simp only [size_alloc'] at h1
  exact (hb.block _ (by simp only [size_alloc']; omega)).trans h1
 have r0 : w1.cell? ⟨w.heap.size + 1 + 1 + 1, 0, none⟩ = some .nilFunc := cell_of hr1 0 rfl
 have rf : ∀ j, w1.frozen? ⟨w.heap.size + 1 + 1 + 1, j, none⟩ = false := fun j => by simp [World.frozen?, hr1]
 have rS : (w1.setCell ⟨w.heap.size + 1 + 1 + 1, 0, none⟩ (.func (.func 78) #[] #[.pointer (some ⟨bo, 0, none⟩)])).cell? ⟨w.heap.size + 1 + 1 + 1, 0, none⟩ = some (.func (.func 78) #[] #[.pointer (some ⟨bo, 0, none⟩)]) := cell_of (heap_setCell_same w1 _ 0 _ _ _ hr1) 0 rfl
 have hB : Below w.heap.size w w1 := Below.trans (by go_grown) (hb.mono (by simp; omega))
 simp only [size_alloc'] at hge
 have hne : bo ≠ w.heap.size + 1 + 1 + 1 := by omega
 clear hb hge hr1
 go_wp2_with fail
 refine bodyPost_ret (v := .agg #[.func (.func 78) #[] #[.pointer (some ⟨bo, 0, none⟩)]]) (by simp [results, Try.results54, go_sem, rS]) rfl ?_
 refine ⟨bo, rfl, by go_grown, ?_, by simpa using hl⟩
 refine (World.cell?_of_block ?_).trans hc
 exact heap_setCell_other _ _ _ _ hne
theorem apply_xor {w : World} {g o c : Nat} {a b : Bt} {p q s : Int} (h : Lb w g o [a, b]) (hg : g < w.heap.size) (hka : Bk a) (hkb : Bk b) (hs : srtF 6 p q [sof a, sof b] = (s, 0)) :
  Calls Try.prog 51 #[.int .i64 6, .int .i64 p, .int .i64 q, .slice (some ⟨g, o, none⟩) 2 c] w fun e w' => e = .returned (.tuple #[.agg #[.int .i64 (bT (tru a != tru b)).w, .int .u64 (bT (tru a != tru b)).lo, .int .u64 (bT (tru a != tru b)).hi], .int .i64 0]) ∧ Below w.heap.size w w' := by
 have hLb : ∀ wx, Below w.heap.size w wx → Lb wx g o [a, b] := fun wx hb j x hj t u hu => by rw [hb.cell (p := ⟨g, o + j * 3 + t, none⟩) hg]; exact h j x hj t u hu
 have HSO : Hid (∀ wx, Below w.heap.size w wx → Calls Try.prog 53 #[.slice (some ⟨g, o, none⟩) 2 c] wx fun e w' => ∃ u, e = .returned u ∧ Is' w' wx.heap.size u ([a, b].map sof) ∧ Below wx.heap.size wx w') := fun wx hb => sorts_any (l := [a, b]) (hLb wx hb) (Nat.lt_of_lt_of_le hg hb.size) (fun x hx => by
  rcases List.mem_cons.1 hx with rfl | hx
  ·exact hka
  ·rw [List.mem_singleton.1 hx]; exact hkb) (by simp)
 have HVS : Hid (∀ wx u base, Is' wx base u ([a, b].map sof) → Calls Try.prog 38 #[.int .i64 6, .int .i64 p, .int .i64 q, u] wx fun e w' => e = .returned (.tuple #[.int .i64 s, .int .i64 0]) ∧ Below wx.heap.size wx w') := fun wx u base hi => by
  have := vsort_any (op := 6) (p := p) (q := q) hi (by simp) (by simp)
  rw [show [a, b].map sof = [sof a, sof b] from rfl, hs] at this; exact this
 obtain ⟨r, hr⟩ : ∃ r, r = (bT (tru a != tru b)) := ⟨_, rfl⟩
 have HME : Hid _ := fun wx => mean_xor (p := p) (q := q) wx
 have HCL : Hid (∀ wx bo, Below w.heap.size w wx → wx.cell? ⟨bo, 0, none⟩ = some (.func (.func 59) #[] #[]) → bo < wx.heap.size → Calls Try.prog 78 #[.slice (some ⟨g, o, none⟩) 2 c, .pointer (some ⟨bo, 0, none⟩)] wx fun e w' => e = .returned (.tuple #[.agg #[.int .i64 r.w, .int .u64 r.lo, .int .u64 r.hi], .int .i64 0]) ∧ Below wx.heap.size wx w') := fun wx bo hb hc hl => by rw [hr]; exact bools_cl3 (hLb wx hb) (Nat.lt_of_lt_of_le hg hb.size) hc hl (fun wy => f_xor _ _ wy)
 have hfd : ∀ wx bo, (Instr.field 95 (.agg #[.func (.func 78) #[] #[.pointer (some ⟨bo, 0, none⟩)]]) 0).run Try.prog wx = .ok (.func (.func 78) #[] #[.pointer (some ⟨bo, 0, none⟩)]) wx := fun wx bo => fld _ rfl wx
 rw [← hr]
 clear h hka hkb hs hLb hr
 go_enter Try.func51, Try.ntmps51
 go_wp2_with fail
 refine Calls.mono (HSO.out _ (by go_grown)) ?_
 rintro e w1 ⟨u, rfl, hI, hb⟩
 have HI : Hid _ := hI
 have hB : Below w.heap.size w w1 := Below.trans (by go_grown) (hb.mono (by simp))
 have hr : w1.heap[w.heap.size]? = some (.cells #[.int .i64 0, .int .u64 0, .int .u64 0] 25) := (hb.block _ (by simp)).trans (heap_alloc_new w _)
 have HR : Hid _ := hr
 clear hb hI hr
 go_wp2_with fail
 refine Calls.mono (HVS.out _ _ _ HI.out) ?_
 rintro e w2 ⟨rfl, hb⟩
 have hB2 : Below w.heap.size w w2 := hB.trans (hb.mono hB.size)
 have HR2 : Hid _ := (hb.block _ (Array.getElem?_eq_some_iff.1 HR.out).1).trans HR.out
 clear hb HI HR hB
 go_wp2_with fail
 refine Calls.mono (HME.out _) ?_
 rintro e w3 ⟨bo, rfl, hb, hcell, hlt⟩
 have hB3 : Below w.heap.size w w3 := hB2.trans (hb.mono hB2.size)
 have HR3 : Hid _ := (hb.block _ (Array.getElem?_eq_some_iff.1 HR2.out).1).trans HR2.out
 have HCE : Hid _ := hcell
 clear hb HR2 hcell hB2
 go_wp2_with fail
 refine Calls.mono (HCL.out _ _ hB3 HCE.out hlt) ?_
 rintro e w4 ⟨rfl, hb⟩
 have hB4 : Below w.heap.size w w4 := hB3.trans (hb.mono hB3.size)
 have hr4 : w4.heap[w.heap.size]? = _ := (hb.block _ (Array.getElem?_eq_some_iff.1 HR3.out).1).trans HR3.out
 have t0 : w4.cell? ⟨w.heap.size, 0, none⟩ = some (.int .i64 0) := cell_of hr4 0 rfl
 have t1 : w4.cell? ⟨w.heap.size, 1, none⟩ = some (.int .u64 0) := cell_of hr4 1 rfl
 have t2 : w4.cell? ⟨w.heap.size, 2, none⟩ = some (.int .u64 0) := cell_of hr4 2 rfl
 have tf : ∀ j, w4.frozen? ⟨w.heap.size, j, none⟩ = false := fun j => by simp [World.frozen?, hr4]
 clear hb HR3 hr4 hB3
 go_wp2_with fail
 refine bodyPost_ret (v := .tuple #[.agg #[.int .i64 r.w, .int .u64 r.lo, .int .u64 r.hi], .int .i64 0]) (by simp [results, Try.results51, go_sem, t0, t1, t2]) rfl ?_
 exact ⟨rfl, by go_grown⟩
theorem mean_eq {p q : Int} (w : World) :
  Calls Try.prog 54 #[.int .i64 8, .int .i64 p, .int .i64 q] w fun e w' => e = .returned (.agg #[.func (.func 61) #[] #[]]) ∧ Below w.heap.size w w' := by
 have hsf := stf
 go_enter Try.func54, Try.ntmps54
 go_wp2_with fail
 refine bodyPost_ret (v := .agg #[.func (.func 61) #[] #[]]) (by simp [results, Try.results54, go_sem]) rfl ?_
 exact ⟨rfl, by go_grown⟩
theorem apply_eq {w : World} {g o c : Nat} {a b : Bt} {p q s : Int} (h : Lb w g o [a, b]) (hg : g < w.heap.size) (hka : Bk a) (hkb : Bk b) (hs : srtF 8 p q [sof a, sof b] = (s, 0)) :
  Calls Try.prog 51 #[.int .i64 8, .int .i64 p, .int .i64 q, .slice (some ⟨g, o, none⟩) 2 c] w fun e w' => e = .returned (.tuple #[.agg #[.int .i64 (bT (eqT a b)).w, .int .u64 (bT (eqT a b)).lo, .int .u64 (bT (eqT a b)).hi], .int .i64 0]) ∧ Below w.heap.size w w' := by
 have hLb : ∀ wx, Below w.heap.size w wx → Lb wx g o [a, b] := fun wx hb j x hj t u hu => by rw [hb.cell (p := ⟨g, o + j * 3 + t, none⟩) hg]; exact h j x hj t u hu
 have HSO : Hid (∀ wx, Below w.heap.size w wx → Calls Try.prog 53 #[.slice (some ⟨g, o, none⟩) 2 c] wx fun e w' => ∃ u, e = .returned u ∧ Is' w' wx.heap.size u ([a, b].map sof) ∧ Below wx.heap.size wx w') := fun wx hb => sorts_any (l := [a, b]) (hLb wx hb) (Nat.lt_of_lt_of_le hg hb.size) (fun x hx => by
  rcases List.mem_cons.1 hx with rfl | hx
  ·exact hka
  ·rw [List.mem_singleton.1 hx]; exact hkb) (by simp)
 have HVS : Hid (∀ wx u base, Is' wx base u ([a, b].map sof) → Calls Try.prog 38 #[.int .i64 8, .int .i64 p, .int .i64 q, u] wx fun e w' => e = .returned (.tuple #[.int .i64 s, .int .i64 0]) ∧ Below wx.heap.size wx w') := fun wx u base hi => by
  have := vsort_any (op := 8) (p := p) (q := q) hi (by simp) (by simp)
  rw [show [a, b].map sof = [sof a, sof b] from rfl, hs] at this; exact this
 obtain ⟨r, hr⟩ : ∃ r, r = (bT (eqT a b)) := ⟨_, rfl⟩
 have HME : Hid _ := fun wx => mean_eq (p := p) (q := q) wx
 have HCL : Hid (∀ wx, Below w.heap.size w wx → Calls Try.prog 61 #[.slice (some ⟨g, o, none⟩) 2 c] wx fun e w' => e = .returned (.tuple #[.agg #[.int .i64 r.w, .int .u64 r.lo, .int .u64 r.hi], .int .i64 0]) ∧ Below wx.heap.size wx w') := fun wx hb => by rw [hr]; exact same_any (hLb wx hb) (Nat.lt_of_lt_of_le hg hb.size)
 have hfd : ∀ wx, (Instr.field 95 (.agg #[.func (.func 61) #[] #[]]) 0).run Try.prog wx = .ok (.func (.func 61) #[] #[]) wx := fun wx => fld _ rfl wx
 rw [← hr]
 clear h hka hkb hs hLb hr
 go_enter Try.func51, Try.ntmps51
 go_wp2_with fail
 refine Calls.mono (HSO.out _ (by go_grown)) ?_
 rintro e w1 ⟨u, rfl, hI, hb⟩
 have HI : Hid _ := hI
 have hB : Below w.heap.size w w1 := Below.trans (by go_grown) (hb.mono (by simp))
 have hr : w1.heap[w.heap.size]? = some (.cells #[.int .i64 0, .int .u64 0, .int .u64 0] 25) := (hb.block _ (by simp)).trans (heap_alloc_new w _)
 have HR : Hid _ := hr
 clear hb hI hr
 go_wp2_with fail
 refine Calls.mono (HVS.out _ _ _ HI.out) ?_
 rintro e w2 ⟨rfl, hb⟩
 have hB2 : Below w.heap.size w w2 := hB.trans (hb.mono hB.size)
 have HR2 : Hid _ := (hb.block _ (Array.getElem?_eq_some_iff.1 HR.out).1).trans HR.out
 clear hb HI HR hB
 go_wp2_with fail
 refine Calls.mono (HME.out _) ?_
 rintro e w3 ⟨rfl, hb⟩
 have hB3 : Below w.heap.size w w3 := hB2.trans (hb.mono hB2.size)
 have HR3 : Hid _ := (hb.block _ (Array.getElem?_eq_some_iff.1 HR2.out).1).trans HR2.out
 clear hb HR2 hB2
 go_wp2_with fail
 refine Calls.mono (HCL.out _ hB3) ?_
 rintro e w4 ⟨rfl, hb⟩
 have hB4 : Below w.heap.size w w4 := hB3.trans (hb.mono hB3.size)
 have hr4 : w4.heap[w.heap.size]? = _ := (hb.block _ (Array.getElem?_eq_some_iff.1 HR3.out).1).trans HR3.out
 have t0 : w4.cell? ⟨w.heap.size, 0, none⟩ = some (.int .i64 0) := cell_of hr4 0 rfl
 have t1 : w4.cell? ⟨w.heap.size, 1, none⟩ = some (.int .u64 0) := cell_of hr4 1 rfl
 have t2 : w4.cell? ⟨w.heap.size, 2, none⟩ = some (.int .u64 0) := cell_of hr4 2 rfl
 have tf : ∀ j, w4.frozen? ⟨w.heap.size, j, none⟩ = false := fun j => by simp [World.frozen?, hr4]
 clear hb HR3 hr4 hB3
 go_wp2_with fail
 refine bodyPost_ret (v := .tuple #[.agg #[.int .i64 r.w, .int .u64 r.lo, .int .u64 r.hi], .int .i64 0]) (by simp [results, Try.results51, go_sem, t0, t1, t2]) rfl ?_
 exact ⟨rfl, by go_grown⟩
end Go.Proofs.Ytedldoobmmhloaa
