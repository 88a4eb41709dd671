import Derived.Test.YtedldoobmmhloaaEA26
namespace Go.Proofs.Ytedldoobmmhloaa
set_option maxHeartbeats 12800000
set_option maxRecDepth 100000
open Go.RowKit
set_option linter.unusedSimpArgs false
set_option linter.unusedVariables false
theorem mean_3 {p q : Int} (w : World) :
  Calls Try.prog 54 #[.int .i64 3, .int .i64 p, .int .i64 q] w fun e w' => e = .returned (.agg #[.func (.func 55) #[] #[]]) ∧ Below w.heap.size w w' := by
 have hsf := stf
 go_enter Try.func54, Try.ntmps54
 go_wp2_with fail
 refine bodyPost_ret (v := .agg #[.func (.func 55) #[] #[]]) (by simp [results, Try.results54, go_sem]) rfl ?_
 exact ⟨rfl, by go_grown⟩
theorem apply_3 {w : World} {g o c : Nat} {a : Bt} {p q s : Int} (h : Lb w g o [a]) (hg : g < w.heap.size) (hka : Bk a) (hs : srtF 3 p q [sof a] = (s, 0)) :
  Calls Try.prog 51 #[.int .i64 3, .int .i64 p, .int .i64 q, .slice (some ⟨g, o, none⟩) 1 c] w fun e w' => e = .returned (.tuple #[.agg #[.int .i64 (bT (!tru a)).w, .int .u64 (bT (!tru a)).lo, .int .u64 (bT (!tru a)).hi], .int .i64 0]) ∧ Below w.heap.size w w' := by
 have hLb : ∀ wx, Below w.heap.size w wx → Lb wx g o [a] := fun wx hb j x hj t u hu => by rw [hb.cell (p := ⟨g, o + j * 3 + t, none⟩) hg]; exact h j x hj t u hu
 have HSO : Hid (∀ wx, Below w.heap.size w wx → Calls Try.prog 53 #[.slice (some ⟨g, o, none⟩) 1 c] wx fun e w' => ∃ u, e = .returned u ∧ Is' w' wx.heap.size u ([a].map sof) ∧ Below wx.heap.size wx w') := fun wx hb => sorts_any (l := [a]) (hLb wx hb) (Nat.lt_of_lt_of_le hg hb.size) (fun x hx => by rw [List.mem_singleton.1 hx]; exact hka) (by simp)
 have HVS : Hid (∀ wx u base, Is' wx base u ([a].map sof) → Calls Try.prog 38 #[.int .i64 3, .int .i64 p, .int .i64 q, u] wx fun e w' => e = .returned (.tuple #[.int .i64 s, .int .i64 0]) ∧ Below wx.heap.size wx w') := fun wx u base hi => by
  have := vsort_any (op := 3) (p := p) (q := q) hi (by simp) (by simp)
  rw [show [a].map sof = [sof a] from rfl, hs] at this; exact this
 have HME : Hid _ := fun wx => mean_3 (p := p) (q := q) wx
 obtain ⟨r, hr⟩ : ∃ r, r = bT (!tru a) := ⟨_, rfl⟩
 have HCL : Hid (∀ wx, Below w.heap.size w wx → Calls Try.prog 55 #[.slice (some ⟨g, o, none⟩) 1 c] wx fun e w' => e = .returned (.tuple #[.agg #[.int .i64 r.w, .int .u64 r.lo, .int .u64 r.hi], .int .i64 0]) ∧ Below wx.heap.size wx w') := fun wx hb => by rw [hr]; exact not_cl (hLb wx hb) (Nat.lt_of_lt_of_le hg hb.size)
 have hfd : ∀ wx, (Instr.field 95 (.agg #[.func (.func 55) #[] #[]]) 0).run Try.prog wx = .ok (.func (.func 55) #[] #[]) wx := fun wx => fld _ rfl wx
 rw [← hr]
 clear h hka hs hLb hr
 go_enter Try.func51, Try.ntmps51
 go_wp2_with fail
 refine Calls.mono (HSO.out _ (by go_grown)) ?_
 rintro e w1 ⟨u, rfl, hI, hb⟩
 have HI : Hid _ := hI
 have hB : Below w.heap.size w w1 := Below.trans (by go_grown) (hb.mono (by simp))
 have hr : w1.heap[w.heap.size]? = some (.cells #[.int .i64 0, .int .u64 0, .int .u64 0] 25) := (hb.block _ (by simp)).trans (heap_alloc_new w _)
 have HR : Hid _ := hr
 clear hb hI hr
 go_wp2_with fail
 refine Calls.mono (HVS.out _ _ _ HI.out) ?_
 rintro e w2 ⟨rfl, hb⟩
 have hB2 : Below w.heap.size w w2 := hB.trans (hb.mono hB.size)
 have HR2 : Hid _ := (hb.block _ (Array.getElem?_eq_some_iff.1 HR.out).1).trans HR.out
 clear hb HI HR hB
 go_wp2_with fail
 refine Calls.mono (HME.out _) ?_
 rintro e w3 ⟨rfl, hb⟩
 have hB3 : Below w.heap.size w w3 := hB2.trans (hb.mono hB2.size)
 have HR3 : Hid _ := (hb.block _ (Array.getElem?_eq_some_iff.1 HR2.out).1).trans HR2.out
 clear hb HR2 hB2
 go_wp2_with fail
 refine Calls.mono (HCL.out _ hB3) ?_
 rintro e w4 ⟨rfl, hb⟩
 have hB4 : Below w.heap.size w w4 := hB3.trans (hb.mono hB3.size)
 have hr4 : w4.heap[w.heap.size]? = _ := (hb.block _ (Array.getElem?_eq_some_iff.1 HR3.out).1).trans HR3.out
 have t0 : w4.cell? ⟨w.heap.size, 0, none⟩ = some (.int .i64 0) := cell_of hr4 0 rfl
 have t1 : w4.cell? ⟨w.heap.size, 1, none⟩ = some (.int .u64 0) := cell_of hr4 1 rfl
 have t2 : w4.cell? ⟨w.heap.size, 2, none⟩ = some (.int .u64 0) := cell_of hr4 2 rfl
 have tf : ∀ j, w4.frozen? ⟨w.heap.size, j, none⟩ = false := fun j => by simp [World.frozen?, hr4]
 clear hb HR3 hr4 hB3
 go_wp2_with fail
 refine bodyPost_ret (v := .tuple #[.agg #[.int .i64 r.w, .int .u64 r.lo, .int .u64 r.hi], .int .i64 0]) (by simp [results, Try.results51, go_sem, t0, t1, t2]) rfl ?_
 exact ⟨rfl, by go_grown⟩
theorem bools_cl4 {w : World} {gb o cc bo : Nat} {va vb : Bt} {z : Bool} (h : Lb w gb o [va, vb]) (hg : gb < w.heap.size) (hop : w.cell? ⟨bo, 0, none⟩ = some (.func (.func 60) #[] #[])) (hbo : bo < w.heap.size)
  (HF : Hid (∀ wx, Calls Try.prog 60 #[.bool (tru va), .bool (tru vb)] wx fun e w' => e = .returned (.bool z) ∧ w' = wx)) :
  Calls Try.prog 78 #[.slice (some ⟨gb, o, none⟩) 2 cc, .pointer (some ⟨bo, 0, none⟩)] w fun e w' => e = .returned (.tuple #[.agg #[.int .i64 (bT z).w, .int .u64 (bT z).lo, .int .u64 (bT z).hi], .int .i64 0]) ∧ Below w.heap.size w w' := by
 have va0 : w.cell? ⟨gb, o, none⟩ = some (.int .i64 va.w) := h 0 va rfl 0 _ rfl
 have va1 : w.cell? ⟨gb, o + 1, none⟩ = some (.int .u64 va.lo) := h 0 va rfl 1 _ rfl
 have va2 : w.cell? ⟨gb, o + 2, none⟩ = some (.int .u64 va.hi) := h 0 va rfl 2 _ rfl
 have vb0 : w.cell? ⟨gb, o + 3, none⟩ = some (.int .i64 vb.w) := h 1 vb rfl 0 _ rfl
 have vb1 : w.cell? ⟨gb, o + 4, none⟩ = some (.int .u64 vb.lo) := h 1 vb rfl 1 _ rfl
 have vb2 : w.cell? ⟨gb, o + 5, none⟩ = some (.int .u64 vb.hi) := h 1 vb rfl 2 _ rfl
 obtain ⟨p, hp⟩ : ∃ p, p = tru va := ⟨_, rfl⟩
 obtain ⟨q, hq⟩ : ∃ q, q = tru vb := ⟨_, rfl⟩
 rw [← hp, ← hq] at HF
 obtain ⟨LL, hL⟩ : ∃ LL : Int, LL = if z then 1 else 0 := ⟨_, rfl⟩
 have HBB : Hid (∀ wx, Calls Try.prog 33 #[.bool z] wx fun e w' => e = .returned (.agg #[.int .i64 0, .int .u64 LL, .int .u64 0]) ∧ Below wx.heap.size wx w') := fun wx => by rw [hL]; exact bool_any z wx
 have HTA : Hid (∀ wx, Calls Try.prog 77 #[.agg #[.int .i64 va.w, .int .u64 va.lo, .int .u64 va.hi]] wx fun e w' => e = .returned (.bool p) ∧ Below wx.heap.size wx w') := fun wx => by rw [hp]; exact istrue_any va wx
 have HTB : Hid (∀ wx, Calls Try.prog 77 #[.agg #[.int .i64 vb.w, .int .u64 vb.lo, .int .u64 vb.hi]] wx fun e w' => e = .returned (.bool q) ∧ Below wx.heap.size wx w') := fun wx => by rw [hq]; exact istrue_any vb wx
 have HFF : Hid (∀ wx, Calls Try.prog 60 #[.bool p, .bool q] wx fun e w' => e = .returned (.bool z) ∧ Below wx.heap.size wx w') := fun wx => Calls.mono (HF.out wx) (fun e w' ⟨he, hw⟩ => ⟨he, by rw [hw]; exact Below.refl _ _⟩)
 show Calls Try.prog 78 #[.slice (some ⟨gb, o, none⟩) 2 cc, .pointer (some ⟨bo, 0, none⟩)] w fun e w' => e = .returned (.tuple #[.agg #[.int .i64 0, .int .u64 (if z then 1 else 0), .int .u64 0], .int .i64 0]) ∧ Below w.heap.size w w'
 rw [← hL]
 clear h hp hq hL HF
 obtain ⟨wU, hwU, hbU, hsU, hrU⟩ : ∃ wU, wU = w.alloc (.cells #[.int .i64 0, .int .u64 0, .int .u64 0] 25) ∧ Below w.heap.size w wU ∧ wU.heap.size = w.heap.size + 1 ∧ wU.heap[w.heap.size]? = some (.cells #[.int .i64 0, .int .u64 0, .int .u64 0] 25) := ⟨_, rfl, by go_grown, by simp, heap_alloc_new w _⟩
 have HRB : Hid (wU.heap[w.heap.size]? = some (.cells [.int .i64 0, .int .u64 0, .int .u64 0].toArray 25)) := hrU
 have HWU : Hid _ := hwU
 have hv2 : w.heap.size ≤ wU.heap.size := by omega
 clear hrU hwU hsU
 go_enter Try.func78, Try.ntmps78
 go_wp2_with fail
 rw [← HWU.out]
 refine wp_named fun a0 ha0 => ?_
 have o0 := old_at ha0 (t := 0) rfl
 have o1 := old_at ha0 (t := 1) rfl
 have o3 := old_at ha0 (t := 3) rfl
 refine wp_region_lin (S := LS wU w.heap.size 11 [.int .i64 0, .int .u64 0, .int .u64 0] [.int .i64 0, .int .u64 LL, .int .u64 0] 25) [] (fun _ => 0) (by kernel_rfl) (by kernel_rfl) (by rw [← ha0]; kernel_rfl) (LS.start HRB.out) ?_
 apply LinAll.cons0
 ·intro g L a x hLi haft hS hK; have t1 := (hK.old 1 (by kernel_rfl)).trans o1; (try dsimp only at t1); refine go_in (wanted_all rfl) ?_; intro K hk; have hBx : Below w.heap.size w x := hbU.trans (hS.below (Nat.le_refl _) hv2); have qo : x.cell? ⟨bo, 0, none⟩ = some (.func (.func 60) #[] #[]) := bel_cell hBx hbo hop; clear hBx; clear haft hK hLi; go_simp; exact hk.out g x (fun _ _ => rfl) (hS.go rfl)
 apply LinAll.cons0
 ·intro g L a x hLi haft hS hK; have t0 := (hK.old 0 (by kernel_rfl)).trans o0; (try dsimp only at t0); refine go_in (wanted_all rfl) ?_; intro K hk; clear haft hK hLi; go_simp; exact hk.out g x (fun _ _ => rfl) (hS.go rfl)
 apply LinAll.cons0
 ·intro g L a x hLi haft hS hK; have t6 := hK.nw haft 1 0 6 rfl (by kernel_rfl); (try dsimp only at t6); refine go_in (wanted_all rfl) ?_; intro K hk; clear haft hK hLi; go_simp; exact hk.out g x (fun _ _ => rfl) (hS.go rfl)
 apply LinAll.cons0
 ·intro g L a x hLi haft hS hK; have t7 := hK.nw haft 2 0 7 rfl (by kernel_rfl); (try dsimp only at t7); refine go_in (wanted_all rfl) ?_; intro K hk; have hBx : Below w.heap.size w x := hbU.trans (hS.below (Nat.le_refl _) hv2); have q0 : x.cell? ⟨gb, o, none⟩ = some (.int .i64 va.w) := bel_cell hBx hg va0; have q1 : x.cell? ⟨gb, o + 1, none⟩ = some (.int .u64 va.lo) := bel_cell hBx hg va1; have q2 : x.cell? ⟨gb, o + 2, none⟩ = some (.int .u64 va.hi) := bel_cell hBx hg va2; clear hBx; clear haft hK hLi; go_simp; exact hk.out g x (fun _ _ => rfl) (hS.go rfl)
 apply LinAll.cons0
 ·intro g L a x hLi haft hS hK; have t8 := hK.nw haft 3 0 8 rfl (by kernel_rfl); (try dsimp only at t8); refine go_in (wanted_all rfl) ?_; intro K hk; clear haft hK hLi; go_simp; refine Calls.mono (HTA.out _) ?_; rintro e y ⟨rfl, hb⟩; exact hk.out g y (fun _ _ => rfl) (hS.on hb rfl)
 apply LinAll.cons0
 ·intro g L a x hLi haft hS hK; have t0 := (hK.old 0 (by kernel_rfl)).trans o0; (try dsimp only at t0); refine go_in (wanted_all rfl) ?_; intro K hk; clear haft hK hLi; go_simp; exact hk.out g x (fun _ _ => rfl) (hS.go rfl)
 apply LinAll.cons0
 ·intro g L a x hLi haft hS hK; have t10 := hK.nw haft 5 0 10 rfl (by kernel_rfl); (try dsimp only at t10); refine go_in (wanted_all rfl) ?_; intro K hk; clear haft hK hLi; go_simp; exact hk.out g x (fun _ _ => rfl) (hS.go rfl)
 apply LinAll.cons0
 ·intro g L a x hLi haft hS hK; have t11 := hK.nw haft 6 0 11 rfl (by kernel_rfl); (try dsimp only at t11); refine go_in (wanted_all rfl) ?_; intro K hk; have hBx : Below w.heap.size w x := hbU.trans (hS.below (Nat.le_refl _) hv2); have q0 : x.cell? ⟨gb, o + 3, none⟩ = some (.int .i64 vb.w) := bel_cell hBx hg vb0; have q1 : x.cell? ⟨gb, o + 4, none⟩ = some (.int .u64 vb.lo) := bel_cell hBx hg vb1; have q2 : x.cell? ⟨gb, o + 5, none⟩ = some (.int .u64 vb.hi) := bel_cell hBx hg vb2; clear hBx; clear haft hK hLi; go_simp; exact hk.out g x (fun _ _ => rfl) (hS.go rfl)
 apply LinAll.cons0
 ·intro g L a x hLi haft hS hK; have t12 := hK.nw haft 7 0 12 rfl (by kernel_rfl); (try dsimp only at t12); refine go_in (wanted_all rfl) ?_; intro K hk; clear haft hK hLi; go_simp; refine Calls.mono (HTB.out _) ?_; rintro e y ⟨rfl, hb⟩; exact hk.out g y (fun _ _ => rfl) (hS.on hb rfl)
 apply LinAll.cons0
 ·intro g L a x hLi haft hS hK; have t5 := hK.nw haft 0 8 5 rfl (by kernel_rfl); have t9 := hK.nw haft 4 4 9 rfl (by kernel_rfl); have t13 := hK.nw haft 8 0 13 rfl (by kernel_rfl); (try dsimp only at t5 t9 t13); refine go_in (wanted_all rfl) ?_; intro K hk; clear haft hK hLi; go_simp; refine Calls.mono (HFF.out _) ?_; rintro e y ⟨rfl, hb⟩; exact hk.out g y (fun _ _ => rfl) (hS.on hb rfl)
 apply LinAll.cons0
 ·intro g L a x hLi haft hS hK; have t14 := hK.nw haft 9 0 14 rfl (by kernel_rfl); (try dsimp only at t14); refine go_in (wanted_all rfl) ?_; intro K hk; clear haft hK hLi; go_simp; refine Calls.mono (HBB.out _) ?_; rintro e y ⟨rfl, hb⟩; exact hk.out g y (fun _ _ => rfl) (hS.on hb rfl)
 refine LinAll.cons0 (v := fun _ => undef) ?_ ?_
 ·intro g L a x hLi haft hS hK; have t3 := (hK.old 3 (by kernel_rfl)).trans o3; have t15 := hK.nw haft 10 0 15 rfl (by kernel_rfl); (try dsimp only at t3 t15); refine go_in (wanted_all rfl) ?_; intro K hk; have hr0 := hS.rb; rw [hLi] at hr0; have q0 : x.cell? ⟨w.heap.size, 0, none⟩ = some (.int .i64 0) := cell_of hr0 0 rfl; have q1 : x.cell? ⟨w.heap.size, 1, none⟩ = some (.int .u64 0) := cell_of hr0 1 rfl; have q2 : x.cell? ⟨w.heap.size, 2, none⟩ = some (.int .u64 0) := cell_of hr0 2 rfl; have qf : ∀ j, x.frozen? ⟨w.heap.size, j, none⟩ = false := (fun j => by simp [World.frozen?, hr0]); have hst := hS.st3 hLi; clear hr0; clear haft hK; go_simp; exact hk.out g _ (fun _ _ => rfl) hst
 apply LinAll.cons0
 ·intro g L a x hLi haft hS hK; refine go_in (wanted_all rfl) ?_; intro K hk; clear haft hK hLi; go_simp; exact hk.out g x (fun _ _ => rfl) (hS.go rfl)
 refine LinAll.nil fun g x hS => ?_
 subst ha0
 simp only [Act.put, List.setIfInBounds_toArray, List.set_cons_zero, List.set_cons_succ]
 clear o0 o1 o3
 have r0 : x.cell? ⟨w.heap.size, 0, none⟩ = some (.int .i64 0) := cell_of hS.rb 0 rfl
 have r1 : x.cell? ⟨w.heap.size, 1, none⟩ = some (.int .u64 LL) := cell_of hS.rb 1 rfl
 have r2 : x.cell? ⟨w.heap.size, 2, none⟩ = some (.int .u64 0) := cell_of hS.rb 2 rfl
 have hB : Below w.heap.size w x := hbU.trans (hS.below (Nat.le_refl _) hv2)
 clear hS
 go_wp2_with fail
 refine bodyPost_ret (v := .tuple #[.agg #[.int .i64 0, .int .u64 LL, .int .u64 0], .int .i64 0]) (by simp [results, Try.results78, go_sem, r0, r1, r2]) rfl ?_
 exact ⟨rfl, hB⟩
theorem of_bools4 (w : World) :
  Calls Try.prog 56 #[(.func (.func 60) #[] #[])] w fun e w' => e = .returned (.agg #[.func (.func 78) #[] #[.pointer (some ⟨w.heap.size, 0, none⟩)]]) ∧ Below w.heap.size w w' ∧ w'.cell? ⟨w.heap.size, 0, none⟩ = some (.func (.func 60) #[] #[]) ∧ w.heap.size < w'.heap.size := by
 have hmf := mkf
 have hsf := stf
 go_enter Try.func56, Try.ntmps56
 go_wp2_with fail
 refine bodyPost_ret (v := .agg #[.func (.func 78) #[] #[.pointer (some ⟨w.heap.size, 0, none⟩)]]) (by simp [results, Try.results56, go_sem]) rfl ?_
 exact ⟨rfl, by go_grown, by simp [go_sem], by simp; omega⟩
theorem mean_imp {p q : Int} (w : World) :
  Calls Try.prog 54 #[.int .i64 7, .int .i64 p, .int .i64 q] w fun e w' => ∃ bo, e = .returned (.agg #[.func (.func 78) #[] #[.pointer (some ⟨bo, 0, none⟩)]]) ∧ Below w.heap.size w w' ∧ w'.cell? ⟨bo, 0, none⟩ = some (.func (.func 60) #[] #[]) ∧ bo < w'.heap.size := by
 have hsf := stf
 have HO : Hid (∀ wx, Calls Try.prog 56 #[(.func (.func 60) #[] #[])] wx fun e w' => ∃ bo, e = .returned (.agg #[.func (.func 78) #[] #[.pointer (some ⟨bo, 0, none⟩)]]) ∧ Below wx.heap.size wx w' ∧ w'.cell? ⟨bo, 0, none⟩ = some (.func (.func 60) #[] #[]) ∧ bo < w'.heap.size ∧ wx.heap.size ≤ bo) := fun wx => Calls.mono (of_bools4 wx) (fun e w' ⟨h1, h2, h3, h4⟩ => ⟨_, h1, h2, h3, h4, Nat.le_refl _⟩)
 go_enter Try.func54, Try.ntmps54
 go_wp2_with fail
 refine Calls.mono (HO.out _) ?_
 rintro e w1 ⟨bo, rfl, hb, hc, hl, hge⟩
 have hr1 : w1.heap[w.heap.size + 1 + 1 + 1]? = some (.cells #[.nilFunc] 95) := by
  have h1 := heap_alloc_new (((w.alloc (.cells #[.int .i64 7] 3)).alloc (.cells #[.int .i64 p] 3)).alloc (.cells #[.int .i64 q] 3)) (.cells #[.nilFunc] 95)
  simp only [size_alloc'] at h1
  exact (hb.block _ (by simp only [size_alloc']; omega)).trans h1
 have r0 : w1.cell? ⟨w.heap.size + 1 + 1 + 1, 0, none⟩ = some .nilFunc := cell_of hr1 0 rfl
 have rf : ∀ j, w1.frozen? ⟨w.heap.size + 1 + 1 + 1, j, none⟩ = false := fun j => by simp [World.frozen?, hr1]
 have rS : (w1.setCell ⟨w.heap.size + 1 + 1 + 1, 0, none⟩ (.func (.func 78) #[] #[.pointer (some ⟨bo, 0, none⟩)])).cell? ⟨w.heap.size + 1 + 1 + 1, 0, none⟩ = some (.func (.func 78) #[] #[.pointer (some ⟨bo, 0, none⟩)]) := cell_of (heap_setCell_same w1 _ 0 _ _ _ hr1) 0 rfl
 have hB : Below w.heap.size w w1 := Below.trans (by go_grown) (hb.mono (by simp; omega))
 simp only [size_alloc'] at hge
 have hne : bo ≠ w.heap.size + 1 + 1 + 1 := by omega
 clear hb hge hr1
 go_wp2_with fail
 refine bodyPost_ret (v := .agg #[.func (.func 78) #[] #[.pointer (some ⟨bo, 0, none⟩)]]) (by simp [results, Try.results54, go_sem, rS]) rfl ?_
 refine ⟨bo, rfl, by go_grown, ?_, by simpa using hl⟩
 refine (World.cell?_of_block ?_).trans hc
 exact heap_setCell_other _ _ _ _ hne
theorem apply_imp {w : World} {g o c : Nat} {a b : Bt} {p q s : Int} (h : Lb w g o [a, b]) (hg : g < w.heap.size) (hka : Bk a) (hkb : Bk b) (hs : srtF 7 p q [sof a, sof b] = (s, 0)) :
  Calls Try.prog 51 #[.int .i64 7, .int .i64 p, .int .i64 q, .slice (some ⟨g, o, none⟩) 2 c] w fun e w' => e = .returned (.tuple #[.agg #[.int .i64 (bT (!tru a || tru b)).w, .int .u64 (bT (!tru a || tru b)).lo, .int .u64 (bT (!tru a || tru b)).hi], .int .i64 0]) ∧ Below w.heap.size w w' := by
 have hLb : ∀ wx, Below w.heap.size w wx → Lb wx g o [a, b] := fun wx hb j x hj t u hu => by rw [hb.cell (p := ⟨g, o + j * 3 + t, none⟩) hg]; exact h j x hj t u hu
 have HSO : Hid (∀ wx, Below w.heap.size w wx → Calls Try.prog 53 #[.slice (some ⟨g, o, none⟩) 2 c] wx fun e w' => ∃ u, e = .returned u ∧ Is' w' wx.heap.size u ([a, b].map sof) ∧ Below wx.heap.size wx w') := fun wx hb => sorts_any (l := [a, b]) (hLb wx hb) (Nat.lt_of_lt_of_le hg hb.size) (fun x hx => by
  rcases List.mem_cons.1 hx with rfl | hx
  ·exact hka
  ·rw [List.mem_singleton.1 hx]; exact hkb) (by simp)
 have HVS : Hid (∀ wx u base, Is' wx base u ([a, b].map sof) → Calls Try.prog 38 #[.int .i64 7, .int .i64 p, .int .i64 q, u] wx fun e w' => e = .returned (.tuple #[.int .i64 s, .int .i64 0]) ∧ Below wx.heap.size wx w') := fun wx u base hi => by
  have := vsort_any (op := 7) (p := p) (q := q) hi (by simp) (by simp)
  rw [show [a, b].map sof = [sof a, sof b] from rfl, hs] at this; exact this
 obtain ⟨r, hr⟩ : ∃ r, r = (bT (!tru a || tru b)) := ⟨_, rfl⟩
 have HME : Hid _ := fun wx => mean_imp (p := p) (q := q) wx
 have HCL : Hid (∀ wx bo, Below w.heap.size w wx → wx.cell? ⟨bo, 0, none⟩ = some (.func (.func 60) #[] #[]) → bo < wx.heap.size → Calls Try.prog 78 #[.slice (some ⟨g, o, none⟩) 2 c, .pointer (some ⟨bo, 0, none⟩)] wx fun e w' => e = .returned (.tuple #[.agg #[.int .i64 r.w, .int .u64 r.lo, .int .u64 r.hi], .int .i64 0]) ∧ Below wx.heap.size wx w') := fun wx bo hb hc hl => by rw [hr]; exact bools_cl4 (hLb wx hb) (Nat.lt_of_lt_of_le hg hb.size) hc hl (fun wy => f_imp _ _ wy)
 have hfd : ∀ wx bo, (Instr.field 95 (.agg #[.func (.func 78) #[] #[.pointer (some ⟨bo, 0, none⟩)]]) 0).run Try.prog wx = .ok (.func (.func 78) #[] #[.pointer (some ⟨bo, 0, none⟩)]) wx := fun wx bo => fld _ rfl wx
 rw [← hr]
 clear h hka hkb hs hLb hr
 go_enter Try.func51, Try.ntmps51
 go_wp2_with fail
 refine Calls.mono (HSO.out _ (by go_grown)) ?_
 rintro e w1 ⟨u, rfl, hI, hb⟩
 have HI : Hid _ := hI
 have hB : Below w.heap.size w w1 := Below.trans (by go_grown) (hb.mono (by simp))
 have hr : w1.heap[w.heap.size]? = some (.cells #[.int .i64 0, .int .u64 0, .int .u64 0] 25) := (hb.block _ (by simp)).trans (heap_alloc_new w _)
 have HR : Hid _ := hr
 clear hb hI hr
 go_wp2_with fail
 refine Calls.mono (HVS.out _ _ _ HI.out) ?_
 rintro e w2 ⟨rfl, hb⟩
 have hB2 : Below w.heap.size w w2 := hB.trans (hb.mono hB.size)
 have HR2 : Hid _ := (hb.block _ (Array.getElem?_eq_some_iff.1 HR.out).1).trans HR.out
 clear hb HI HR hB
 go_wp2_with fail
 refine Calls.mono (HME.out _) ?_
 rintro e w3 ⟨bo, rfl, hb, hcell, hlt⟩
 have hB3 : Below w.heap.size w w3 := hB2.trans (hb.mono hB2.size)
 have HR3 : Hid _ := (hb.block _ (Array.getElem?_eq_some_iff.1 HR2.out).1).trans HR2.out
 have HCE : Hid _ := hcell
 clear hb HR2 hcell hB2
 go_wp2_with fail
 refine Calls.mono (HCL.out _ _ hB3 HCE.out hlt) ?_
 rintro e w4 ⟨rfl, hb⟩
 have hB4 : Below w.heap.size w w4 := hB3.trans (hb.mono hB3.size)
 have hr4 : w4.heap[w.heap.size]? = _ := (hb.block _ (Array.getElem?_eq_some_iff.1 HR3.out).1).trans HR3.out
 have t0 : w4.cell? ⟨w.heap.size, 0, none⟩ = some (.int .i64 0) := cell_of hr4 0 rfl
 have t1 : w4.cell? ⟨w.heap.size, 1, none⟩ = some (.int .u64 0) := cell_of hr4 1 rfl
 have t2 : w4.cell? ⟨w.heap.size, 2, none⟩ = some (.int .u64 0) := cell_of hr4 2 rfl
 have tf : ∀ j, w4.frozen? ⟨w.heap.size, j, none⟩ = false := fun j => by simp [World.frozen?, hr4]
 clear hb HR3 hr4 hB3
 go_wp2_with fail
 refine bodyPost_ret (v := .tuple #[.agg #[.int .i64 r.w, .int .u64 r.lo, .int .u64 r.hi], .int .i64 0]) (by simp [results, Try.results51, go_sem, t0, t1, t2]) rfl ?_
 exact ⟨rfl, by go_grown⟩
theorem mean_10 {p q : Int} (w : World) :
  Calls Try.prog 54 #[.int .i64 10, .int .i64 p, .int .i64 q] w fun e w' => e = .returned (.agg #[.func (.func 63) #[] #[.pointer (some ⟨w.heap.size, 0, none⟩)]]) ∧ Below w.heap.size w w' ∧ w.heap.size + 3 < w'.heap.size ∧ w'.cell? ⟨w.heap.size, 0, none⟩ = some (.int .i64 10) := by
 have hmf := mkf
 have hsf := stf
 go_enter Try.func54, Try.ntmps54
 go_wp2_with fail
 refine bodyPost_ret (v := .agg #[.func (.func 63) #[] #[.pointer (some ⟨w.heap.size, 0, none⟩)]]) (by simp [results, Try.results54, go_sem]) rfl ?_
 refine ⟨rfl, by go_grown, (by first | (simp; done) | (simp; omega)), ?_⟩
 ·refine (World.cell?_of_block ?_).trans (cell_of (heap_alloc_new w (.cells #[.int .i64 10] 3)) 0 rfl)
  exact (heap_alloc_old _ _ (by first | (simp; done) | (simp; omega))).trans ((heap_alloc_old _ _ (by first | (simp; done) | (simp; omega))).trans (heap_alloc_old _ _ (by simp)))
theorem apply_10 {w : World} {g o c : Nat} {a r : Bt} {p q s er : Int} (h : Lb w g o [a]) (hg : g < w.heap.size) (hka : Bk a) (hs : srtF 10 p q [sof a] = (s, 0))
  (HT : Hid (∀ wx, Calls Try.prog 64 #[.int .i64 10, .agg #[.int .i64 a.w, .int .u64 a.lo, .int .u64 a.hi]] wx fun e w' => e = .returned (.tuple #[.agg #[.int .i64 r.w, .int .u64 r.lo, .int .u64 r.hi], .int .i64 er]) ∧ Below wx.heap.size wx w')) :
  Calls Try.prog 51 #[.int .i64 10, .int .i64 p, .int .i64 q, .slice (some ⟨g, o, none⟩) 1 c] w fun e w' => e = .returned (.tuple #[.agg #[.int .i64 r.w, .int .u64 r.lo, .int .u64 r.hi], .int .i64 er]) ∧ Below w.heap.size w w' := by
 have hLb : ∀ wx, Below w.heap.size w wx → Lb wx g o [a] := fun wx hb j x hj t u hu => by rw [hb.cell (p := ⟨g, o + j * 3 + t, none⟩) hg]; exact h j x hj t u hu
 have HSO : Hid (∀ wx, Below w.heap.size w wx → Calls Try.prog 53 #[.slice (some ⟨g, o, none⟩) 1 c] wx fun e w' => ∃ u, e = .returned u ∧ Is' w' wx.heap.size u ([a].map sof) ∧ Below wx.heap.size wx w') := fun wx hb => sorts_any (l := [a]) (hLb wx hb) (Nat.lt_of_lt_of_le hg hb.size) (fun x hx => by rw [List.mem_singleton.1 hx]; exact hka) (by simp)
 have HVS : Hid (∀ wx u base, Is' wx base u ([a].map sof) → Calls Try.prog 38 #[.int .i64 10, .int .i64 p, .int .i64 q, u] wx fun e w' => e = .returned (.tuple #[.int .i64 s, .int .i64 0]) ∧ Below wx.heap.size wx w') := fun wx u base hi => by
  have := vsort_any (op := 10) (p := p) (q := q) hi (by simp) (by simp)
  rw [show [a].map sof = [sof a] from rfl, hs] at this; exact this
 have HME : Hid _ := fun wx => mean_10 (p := p) (q := q) wx
 have HCL : Hid (∀ wx bo0, Below w.heap.size w wx → wx.cell? ⟨bo0, 0, none⟩ = some (.int .i64 10) → bo0 < wx.heap.size → Calls Try.prog 63 #[.slice (some ⟨g, o, none⟩) 1 c, .pointer (some ⟨bo0, 0, none⟩)] wx fun e w' => e = .returned (.tuple #[.agg #[.int .i64 r.w, .int .u64 r.lo, .int .u64 r.hi], .int .i64 er]) ∧ Below wx.heap.size wx w') := fun wx bo0 hb hc0 hl0 => cl_5 (hLb wx hb) (Nat.lt_of_lt_of_le hg hb.size) hc0 hl0 HT
 have hfd : ∀ wx bo0, (Instr.field 95 (.agg #[.func (.func 63) #[] #[.pointer (some ⟨bo0, 0, none⟩)]]) 0).run Try.prog wx = .ok (.func (.func 63) #[] #[.pointer (some ⟨bo0, 0, none⟩)]) wx := fun wx bo0 => fld _ rfl wx
 clear h hka hs hLb
 go_enter Try.func51, Try.ntmps51
 go_wp2_with fail
 refine Calls.mono (HSO.out _ (by go_grown)) ?_
 rintro e w1 ⟨u, rfl, hI, hb⟩
 have HI : Hid _ := hI
 have hB : Below w.heap.size w w1 := Below.trans (by go_grown) (hb.mono (by simp))
 have hr : w1.heap[w.heap.size]? = some (.cells #[.int .i64 0, .int .u64 0, .int .u64 0] 25) := (hb.block _ (by simp)).trans (heap_alloc_new w _)
 have HR : Hid _ := hr
 clear hb hI hr
 go_wp2_with fail
 refine Calls.mono (HVS.out _ _ _ HI.out) ?_
 rintro e w2 ⟨rfl, hb⟩
 have hB2 : Below w.heap.size w w2 := hB.trans (hb.mono hB.size)
 have HR2 : Hid _ := (hb.block _ (Array.getElem?_eq_some_iff.1 HR.out).1).trans HR.out
 clear hb HI HR hB
 go_wp2_with fail
 refine Calls.mono (HME.out _) ?_
 rintro e w3 ⟨rfl, hb, hsz, hc0⟩
 have hB3 : Below w.heap.size w w3 := hB2.trans (hb.mono hB2.size)
 have HR3 : Hid _ := (hb.block _ (Array.getElem?_eq_some_iff.1 HR2.out).1).trans HR2.out
 have HC0 : Hid _ := hc0
 clear hc0
 clear hb HR2 hB2
 go_wp2_with fail
 refine Calls.mono (HCL.out _ _ hB3 HC0.out (by omega)) ?_
 rintro e w4 ⟨rfl, hb⟩
 have hB4 : Below w.heap.size w w4 := hB3.trans (hb.mono hB3.size)
 have hr4 : w4.heap[w.heap.size]? = _ := (hb.block _ (Array.getElem?_eq_some_iff.1 HR3.out).1).trans HR3.out
 have t0 : w4.cell? ⟨w.heap.size, 0, none⟩ = some (.int .i64 0) := cell_of hr4 0 rfl
 have t1 : w4.cell? ⟨w.heap.size, 1, none⟩ = some (.int .u64 0) := cell_of hr4 1 rfl
 have t2 : w4.cell? ⟨w.heap.size, 2, none⟩ = some (.int .u64 0) := cell_of hr4 2 rfl
 have tf : ∀ j, w4.frozen? ⟨w.heap.size, j, none⟩ = false := fun j => by simp [World.frozen?, hr4]
 clear hb HR3 hr4 hB3
 go_wp2_with fail
 refine bodyPost_ret (v := .tuple #[.agg #[.int .i64 r.w, .int .u64 r.lo, .int .u64 r.hi], .int .i64 er]) (by simp [results, Try.results51, go_sem, t0, t1, t2]) rfl ?_
 exact ⟨rfl, by go_grown⟩
theorem mean_11 {p q : Int} (w : World) :
  Calls Try.prog 54 #[.int .i64 11, .int .i64 p, .int .i64 q] w fun e w' => e = .returned (.agg #[.func (.func 63) #[] #[.pointer (some ⟨w.heap.size, 0, none⟩)]]) ∧ Below w.heap.size w w' ∧ w.heap.size + 3 < w'.heap.size ∧ w'.cell? ⟨w.heap.size, 0, none⟩ = some (.int .i64 11) := by
 have hmf := mkf
 have hsf := stf
 go_enter Try.func54, Try.ntmps54
 go_wp2_with fail
 refine bodyPost_ret (v := .agg #[.func (.func 63) #[] #[.pointer (some ⟨w.heap.size, 0, none⟩)]]) (by simp [results, Try.results54, go_sem]) rfl ?_
 refine ⟨rfl, by go_grown, (by first | (simp; done) | (simp; omega)), ?_⟩
 ·refine (World.cell?_of_block ?_).trans (cell_of (heap_alloc_new w (.cells #[.int .i64 11] 3)) 0 rfl)
  exact (heap_alloc_old _ _ (by first | (simp; done) | (simp; omega))).trans ((heap_alloc_old _ _ (by first | (simp; done) | (simp; omega))).trans (heap_alloc_old _ _ (by simp)))
theorem apply_11 {w : World} {g o c : Nat} {a r : Bt} {p q s er : Int} (h : Lb w g o [a]) (hg : g < w.heap.size) (hka : Bk a) (hs : srtF 11 p q [sof a] = (s, 0))
  (HT : Hid (∀ wx, Calls Try.prog 64 #[.int .i64 11, .agg #[.int .i64 a.w, .int .u64 a.lo, .int .u64 a.hi]] wx fun e w' => e = .returned (.tuple #[.agg #[.int .i64 r.w, .int .u64 r.lo, .int .u64 r.hi], .int .i64 er]) ∧ Below wx.heap.size wx w')) :
  Calls Try.prog 51 #[.int .i64 11, .int .i64 p, .int .i64 q, .slice (some ⟨g, o, none⟩) 1 c] w fun e w' => e = .returned (.tuple #[.agg #[.int .i64 r.w, .int .u64 r.lo, .int .u64 r.hi], .int .i64 er]) ∧ Below w.heap.size w w' := by
 have hLb : ∀ wx, Below w.heap.size w wx → Lb wx g o [a] := fun wx hb j x hj t u hu => by rw [hb.cell (p := ⟨g, o + j * 3 + t, none⟩) hg]; exact h j x hj t u hu
 have HSO : Hid (∀ wx, Below w.heap.size w wx → Calls Try.prog 53 #[.slice (some ⟨g, o, none⟩) 1 c] wx fun e w' => ∃ u, e = .returned u ∧ Is' w' wx.heap.size u ([a].map sof) ∧ Below wx.heap.size wx w') := fun wx hb => sorts_any (l := [a]) (hLb wx hb) (Nat.lt_of_lt_of_le hg hb.size) (fun x hx => by rw [List.mem_singleton.1 hx]; exact hka) (by simp)
 have HVS : Hid (∀ wx u base, Is' wx base u ([a].map sof) → Calls Try.prog 38 #[.int .i64 11, .int .i64 p, .int .i64 q, u] wx fun e w' => e = .returned (.tuple #[.int .i64 s, .int .i64 0]) ∧ Below wx.heap.size wx w') := fun wx u base hi => by
  have := vsort_any (op := 11) (p := p) (q := q) hi (by simp) (by simp)
  rw [show [a].map sof = [sof a] from rfl, hs] at this; exact this
 have HME : Hid _ := fun wx => mean_11 (p := p) (q := q) wx
 have HCL : Hid (∀ wx bo0, Below w.heap.size w wx → wx.cell? ⟨bo0, 0, none⟩ = some (.int .i64 11) → bo0 < wx.heap.size → Calls Try.prog 63 #[.slice (some ⟨g, o, none⟩) 1 c, .pointer (some ⟨bo0, 0, none⟩)] wx fun e w' => e = .returned (.tuple #[.agg #[.int .i64 r.w, .int .u64 r.lo, .int .u64 r.hi], .int .i64 er]) ∧ Below wx.heap.size wx w') := fun wx bo0 hb hc0 hl0 => cl_5 (hLb wx hb) (Nat.lt_of_lt_of_le hg hb.size) hc0 hl0 HT
 have hfd : ∀ wx bo0, (Instr.field 95 (.agg #[.func (.func 63) #[] #[.pointer (some ⟨bo0, 0, none⟩)]]) 0).run Try.prog wx = .ok (.func (.func 63) #[] #[.pointer (some ⟨bo0, 0, none⟩)]) wx := fun wx bo0 => fld _ rfl wx
 clear h hka hs hLb
 go_enter Try.func51, Try.ntmps51
 go_wp2_with fail
 refine Calls.mono (HSO.out _ (by go_grown)) ?_
 rintro e w1 ⟨u, rfl, hI, hb⟩
 have HI : Hid _ := hI
 have hB : Below w.heap.size w w1 := Below.trans (by go_grown) (hb.mono (by simp))
 have hr : w1.heap[w.heap.size]? = some (.cells #[.int .i64 0, .int .u64 0, .int .u64 0] 25) := (hb.block _ (by simp)).trans (heap_alloc_new w _)
 have HR : Hid _ := hr
 clear hb hI hr
 go_wp2_with fail
 refine Calls.mono (HVS.out _ _ _ HI.out) ?_
 rintro e w2 ⟨rfl, hb⟩
 have hB2 : Below w.heap.size w w2 := hB.trans (hb.mono hB.size)
 have HR2 : Hid _ := (hb.block _ (Array.getElem?_eq_some_iff.1 HR.out).1).trans HR.out
 clear hb HI HR hB
 go_wp2_with fail
 refine Calls.mono (HME.out _) ?_
 rintro e w3 ⟨rfl, hb, hsz, hc0⟩
 have hB3 : Below w.heap.size w w3 := hB2.trans (hb.mono hB2.size)
 have HR3 : Hid _ := (hb.block _ (Array.getElem?_eq_some_iff.1 HR2.out).1).trans HR2.out
 have HC0 : Hid _ := hc0
 clear hc0
 clear hb HR2 hB2
 go_wp2_with fail
 refine Calls.mono (HCL.out _ _ hB3 HC0.out (by omega)) ?_
 rintro e w4 ⟨rfl, hb⟩
 have hB4 : Below w.heap.size w w4 := hB3.trans (hb.mono hB3.size)
 have hr4 : w4.heap[w.heap.size]? = _ := (hb.block _ (Array.getElem?_eq_some_iff.1 HR3.out).1).trans HR3.out
 have t0 : w4.cell? ⟨w.heap.size, 0, none⟩ = some (.int .i64 0) := cell_of hr4 0 rfl
 have t1 : w4.cell? ⟨w.heap.size, 1, none⟩ = some (.int .u64 0) := cell_of hr4 1 rfl
 have t2 : w4.cell? ⟨w.heap.size, 2, none⟩ = some (.int .u64 0) := cell_of hr4 2 rfl
 have tf : ∀ j, w4.frozen? ⟨w.heap.size, j, none⟩ = false := fun j => by simp [World.frozen?, hr4]
 clear hb HR3 hr4 hB3
 go_wp2_with fail
 refine bodyPost_ret (v := .tuple #[.agg #[.int .i64 r.w, .int .u64 r.lo, .int .u64 r.hi], .int .i64 er]) (by simp [results, Try.results51, go_sem, t0, t1, t2]) rfl ?_
 exact ⟨rfl, by go_grown⟩
end Go.Proofs.Ytedldoobmmhloaa
