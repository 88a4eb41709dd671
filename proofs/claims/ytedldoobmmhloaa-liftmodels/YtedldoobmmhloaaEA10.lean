import Derived.Test.YtedldoobmmhloaaEA9
namespace Go.Proofs.Ytedldoobmmhloaa
set_option maxHeartbeats 12800000
set_option maxRecDepth 100000
open Go.RowKit
set_option linter.unusedSimpArgs false
set_option linter.unusedVariables false
theorem bools_cl1 {w : World} {gb o cc bo : Nat} {va vb : Bt} {z : Bool} (h : Lb w gb o [va, vb]) (hg : gb < w.heap.size) (hop : w.cell? ⟨bo, 0, none⟩ = some (.func (.func 57) #[] #[])) (hbo : bo < w.heap.size)
  (HF : Hid (∀ wx, Calls Try.prog 57 #[.bool (tru va), .bool (tru vb)] wx fun e w' => e = .returned (.bool z) ∧ w' = wx)) :
  Calls Try.prog 78 #[.slice (some ⟨gb, o, none⟩) 2 cc, .pointer (some ⟨bo, 0, none⟩)] w fun e w' => e = .returned (.tuple #[.agg #[.int .i64 (bT z).w, .int .u64 (bT z).lo, .int .u64 (bT z).hi], .int .i64 0]) ∧ Below w.heap.size w w' := by
 have va0 : w.cell? ⟨gb, o, none⟩ = some (.int .i64 va.w) := h 0 va rfl 0 _ rfl
 have va1 : w.cell? ⟨gb, o + 1, none⟩ = some (.int .u64 va.lo) := h 0 va rfl 1 _ rfl
 have va2 : w.cell? ⟨gb, o + 2, none⟩ = some (.int .u64 va.hi) := h 0 va rfl 2 _ rfl
 have vb0 : w.cell? ⟨gb, o + 3, none⟩ = some (.int .i64 vb.w) := h 1 vb rfl 0 _ rfl
 have vb1 : w.cell? ⟨gb, o + 4, none⟩ = some (.int .u64 vb.lo) := h 1 vb rfl 1 _ rfl
 have vb2 : w.cell? ⟨gb, o + 5, none⟩ = some (.int .u64 vb.hi) := h 1 vb rfl 2 _ rfl
 obtain ⟨p, hp⟩ : ∃ p, p = tru va := ⟨_, rfl⟩
 obtain ⟨q, hq⟩ : ∃ q, q = tru vb := ⟨_, rfl⟩
 rw [← hp, ← hq] at HF
 obtain ⟨LL, hL⟩ : ∃ LL : Int, LL = if z then 1 else 0 := ⟨_, rfl⟩
 have HBB : Hid (∀ wx, Calls Try.prog 33 #[.bool z] wx fun e w' => e = .returned (.agg #[.int .i64 0, .int .u64 LL, .int .u64 0]) ∧ Below wx.heap.size wx w') := fun wx => by rw [hL]; exact bool_any z wx
 have HTA : Hid (∀ wx, Calls Try.prog 77 #[.agg #[.int .i64 va.w, .int .u64 va.lo, .int .u64 va.hi]] wx fun e w' => e = .returned (.bool p) ∧ Below wx.heap.size wx w') := fun wx => by rw [hp]; exact istrue_any va wx
 have HTB : Hid (∀ wx, Calls Try.prog 77 #[.agg #[.int .i64 vb.w, .int .u64 vb.lo, .int .u64 vb.hi]] wx fun e w' => e = .returned (.bool q) ∧ Below wx.heap.size wx w') := fun wx => by rw [hq]; exact istrue_any vb wx
 have HFF : Hid (∀ wx, Calls Try.prog 57 #[.bool p, .bool q] wx fun e w' => e = .returned (.bool z) ∧ Below wx.heap.size wx w') := fun wx => Calls.mono (HF.out wx) (fun e w' ⟨he, hw⟩ => ⟨he, by rw [hw]; exact Below.refl _ _⟩)
 show Calls Try.prog 78 #[.slice (some ⟨gb, o, none⟩) 2 cc, .pointer (some ⟨bo, 0, none⟩)] w fun e w' => e = .returned (.tuple #[.agg #[.int .i64 0, .int .u64 (if z then 1 else 0), .int .u64 0], .int .i64 0]) ∧ Below w.heap.size w w'
 rw [← hL]
 clear h hp hq hL HF
 obtain ⟨wU, hwU, hbU, hsU, hrU⟩ : ∃ wU, wU = w.alloc (.cells #[.int .i64 0, .int .u64 0, .int .u64 0] 25) ∧ Below w.heap.size w wU ∧ wU.heap.size = w.heap.size + 1 ∧ wU.heap[w.heap.size]? = some (.cells #[.int .i64 0, .int .u64 0, .int .u64 0] 25) := ⟨_, rfl, by go_grown, by simp, heap_alloc_new w _⟩
 have HRB : Hid (wU.heap[w.heap.size]? = some (.cells [.int .i64 0, .int .u64 0, .int .u64 0].toArray 25)) := hrU
 have HWU : Hid _ := hwU
 have hv2 : w.heap.size ≤ wU.heap.size := by omega
 clear hrU hwU hsU
 go_enter Try.func78, Try.ntmps78
 go_wp2_with fail
 rw [← HWU.out]
 refine wp_named fun a0 ha0 => ?_
 have o0 := old_at ha0 (t := 0) rfl
 have o1 := old_at ha0 (t := 1) rfl
 have o3 := old_at ha0 (t := 3) rfl
 refine wp_region_lin (S := LS wU w.heap.size 11 [.int .i64 0, .int .u64 0, .int .u64 0] [.int .i64 0, .int .u64 LL, .int .u64 0] 25) [] (fun _ => 0) (by kernel_rfl) (by kernel_rfl) (by rw [← ha0]; kernel_rfl) (LS.start HRB.out) ?_
 apply LinAll.cons0
 ·intro g L a x hLi haft hS hK; have t1 := (hK.old 1 (by kernel_rfl)).trans o1; (try dsimp only at t1); refine go_in (wanted_all rfl) ?_; intro K hk; have hBx : Below w.heap.size w x := hbU.trans (hS.below (Nat.le_refl _) hv2); have qo : x.cell? ⟨bo, 0, none⟩ = some (.func (.func 57) #[] #[]) := bel_cell hBx hbo hop; clear hBx; clear haft hK hLi; go_simp; exact hk.out g x (fun _ _ => rfl) (hS.go rfl)
 apply LinAll.cons0
 ·intro g L a x hLi haft hS hK; have t0 := (hK.old 0 (by kernel_rfl)).trans o0; (try dsimp only at t0); refine go_in (wanted_all rfl) ?_; intro K hk; clear haft hK hLi; go_simp; exact hk.out g x (fun _ _ => rfl) (hS.go rfl)
 apply LinAll.cons0
 ·intro g L a x hLi haft hS hK; have t6 := hK.nw haft 1 0 6 rfl (by kernel_rfl); (try dsimp only at t6); refine go_in (wanted_all rfl) ?_; intro K hk; clear haft hK hLi; go_simp; exact hk.out g x (fun _ _ => rfl) (hS.go rfl)
 apply LinAll.cons0
 ·intro g L a x hLi haft hS hK; have t7 := hK.nw haft 2 0 7 rfl (by kernel_rfl); (try dsimp only at t7); refine go_in (wanted_all rfl) ?_; intro K hk; have hBx : Below w.heap.size w x := hbU.trans (hS.below (Nat.le_refl _) hv2); have q0 : x.cell? ⟨gb, o, none⟩ = some (.int .i64 va.w) := bel_cell hBx hg va0; have q1 : x.cell? ⟨gb, o + 1, none⟩ = some (.int .u64 va.lo) := bel_cell hBx hg va1; have q2 : x.cell? ⟨gb, o + 2, none⟩ = some (.int .u64 va.hi) := bel_cell hBx hg va2; clear hBx; clear haft hK hLi; go_simp; exact hk.out g x (fun _ _ => rfl) (hS.go rfl)
 apply LinAll.cons0
 ·intro g L a x hLi haft hS hK; have t8 := hK.nw haft 3 0 8 rfl (by kernel_rfl); (try dsimp only at t8); refine go_in (wanted_all rfl) ?_; intro K hk; clear haft hK hLi; go_simp; refine Calls.mono (HTA.out _) ?_; rintro e y ⟨rfl, hb⟩; exact hk.out g y (fun _ _ => rfl) (hS.on hb rfl)
 apply LinAll.cons0
 ·intro g L a x hLi haft hS hK; have t0 := (hK.old 0 (by kernel_rfl)).trans o0; (try dsimp only at t0); refine go_in (wanted_all rfl) ?_; intro K hk; clear haft hK hLi; go_simp; exact hk.out g x (fun _ _ => rfl) (hS.go rfl)
 apply LinAll.cons0
 ·intro g L a x hLi haft hS hK; have t10 := hK.nw haft 5 0 10 rfl (by kernel_rfl); (try dsimp only at t10); refine go_in (wanted_all rfl) ?_; intro K hk; clear haft hK hLi; go_simp; exact hk.out g x (fun _ _ => rfl) (hS.go rfl)
 apply LinAll.cons0
 ·intro g L a x hLi haft hS hK; have t11 := hK.nw haft 6 0 11 rfl (by kernel_rfl); (try dsimp only at t11); refine go_in (wanted_all rfl) ?_; intro K hk; have hBx : Below w.heap.size w x := hbU.trans (hS.below (Nat.le_refl _) hv2); have q0 : x.cell? ⟨gb, o + 3, none⟩ = some (.int .i64 vb.w) := bel_cell hBx hg vb0; have q1 : x.cell? ⟨gb, o + 4, none⟩ = some (.int .u64 vb.lo) := bel_cell hBx hg vb1; have q2 : x.cell? ⟨gb, o + 5, none⟩ = some (.int .u64 vb.hi) := bel_cell hBx hg vb2; clear hBx; clear haft hK hLi; go_simp; exact hk.out g x (fun _ _ => rfl) (hS.go rfl)
 apply LinAll.cons0
 ·intro g L a x hLi haft hS hK; have t12 := hK.nw haft 7 0 12 rfl (by kernel_rfl); (try dsimp only at t12); refine go_in (wanted_all rfl) ?_; intro K hk; clear haft hK hLi; go_simp; refine Calls.mono (HTB.out _) ?_; rintro e y ⟨rfl, hb⟩; exact hk.out g y (fun _ _ => rfl) (hS.on hb rfl)
 apply LinAll.cons0
 ·intro g L a x hLi haft hS hK; have t5 := hK.nw haft 0 8 5 rfl (by kernel_rfl); have t9 := hK.nw haft 4 4 9 rfl (by kernel_rfl); have t13 := hK.nw haft 8 0 13 rfl (by kernel_rfl); (try dsimp only at t5 t9 t13); refine go_in (wanted_all rfl) ?_; intro K hk; clear haft hK hLi; go_simp; refine Calls.mono (HFF.out _) ?_; rintro e y ⟨rfl, hb⟩; exact hk.out g y (fun _ _ => rfl) (hS.on hb rfl)
 apply LinAll.cons0
 ·intro g L a x hLi haft hS hK; have t14 := hK.nw haft 9 0 14 rfl (by kernel_rfl); (try dsimp only at t14); refine go_in (wanted_all rfl) ?_; intro K hk; clear haft hK hLi; go_simp; refine Calls.mono (HBB.out _) ?_; rintro e y ⟨rfl, hb⟩; exact hk.out g y (fun _ _ => rfl) (hS.on hb rfl)
 refine LinAll.cons0 (v := fun _ => undef) ?_ ?_
 ·intro g L a x hLi haft hS hK; have t3 := (hK.old 3 (by kernel_rfl)).trans o3; have t15 := hK.nw haft 10 0 15 rfl (by kernel_rfl); (try dsimp only at t3 t15); refine go_in (wanted_all rfl) ?_; intro K hk; have hr0 := hS.rb; rw [hLi] at hr0; have q0 : x.cell? ⟨w.heap.size, 0, none⟩ = some (.int .i64 0) := cell_of hr0 0 rfl; have q1 : x.cell? ⟨w.heap.size, 1, none⟩ = some (.int .u64 0) := cell_of hr0 1 rfl; have q2 : x.cell? ⟨w.heap.size, 2, none⟩ = some (.int .u64 0) := cell_of hr0 2 rfl; have qf : ∀ j, x.frozen? ⟨w.heap.size, j, none⟩ = false := (fun j => by simp [World.frozen?, hr0]); have hst := hS.st3 hLi; clear hr0; clear haft hK; go_simp; exact hk.out g _ (fun _ _ => rfl) hst
 apply LinAll.cons0
 ·intro g L a x hLi haft hS hK; refine go_in (wanted_all rfl) ?_; intro K hk; clear haft hK hLi; go_simp; exact hk.out g x (fun _ _ => rfl) (hS.go rfl)
 refine LinAll.nil fun g x hS => ?_
 subst ha0
 simp only [Act.put, List.setIfInBounds_toArray, List.set_cons_zero, List.set_cons_succ]
 clear o0 o1 o3
 have r0 : x.cell? ⟨w.heap.size, 0, none⟩ = some (.int .i64 0) := cell_of hS.rb 0 rfl
 have r1 : x.cell? ⟨w.heap.size, 1, none⟩ = some (.int .u64 LL) := cell_of hS.rb 1 rfl
 have r2 : x.cell? ⟨w.heap.size, 2, none⟩ = some (.int .u64 0) := cell_of hS.rb 2 rfl
 have hB : Below w.heap.size w x := hbU.trans (hS.below (Nat.le_refl _) hv2)
 clear hS
 go_wp2_with fail
 refine bodyPost_ret (v := .tuple #[.agg #[.int .i64 0, .int .u64 LL, .int .u64 0], .int .i64 0]) (by simp [results, Try.results78, go_sem, r0, r1, r2]) rfl ?_
 exact ⟨rfl, hB⟩
theorem bools_cl2 {w : World} {gb o cc bo : Nat} {va vb : Bt} {z : Bool} (h : Lb w gb o [va, vb]) (hg : gb < w.heap.size) (hop : w.cell? ⟨bo, 0, none⟩ = some (.func (.func 58) #[] #[])) (hbo : bo < w.heap.size)
  (HF : Hid (∀ wx, Calls Try.prog 58 #[.bool (tru va), .bool (tru vb)] wx fun e w' => e = .returned (.bool z) ∧ w' = wx)) :
  Calls Try.prog 78 #[.slice (some ⟨gb, o, none⟩) 2 cc, .pointer (some ⟨bo, 0, none⟩)] w fun e w' => e = .returned (.tuple #[.agg #[.int .i64 (bT z).w, .int .u64 (bT z).lo, .int .u64 (bT z).hi], .int .i64 0]) ∧ Below w.heap.size w w' := by
 have va0 : w.cell? ⟨gb, o, none⟩ = some (.int .i64 va.w) := h 0 va rfl 0 _ rfl
 have va1 : w.cell? ⟨gb, o + 1, none⟩ = some (.int .u64 va.lo) := h 0 va rfl 1 _ rfl
 have va2 : w.cell? ⟨gb, o + 2, none⟩ = some (.int .u64 va.hi) := h 0 va rfl 2 _ rfl
 have vb0 : w.cell? ⟨gb, o + 3, none⟩ = some (.int .i64 vb.w) := h 1 vb rfl 0 _ rfl
 have vb1 : w.cell? ⟨gb, o + 4, none⟩ = some (.int .u64 vb.lo) := h 1 vb rfl 1 _ rfl
 have vb2 : w.cell? ⟨gb, o + 5, none⟩ = some (.int .u64 vb.hi) := h 1 vb rfl 2 _ rfl
 obtain ⟨p, hp⟩ : ∃ p, p = tru va := ⟨_, rfl⟩
 obtain ⟨q, hq⟩ : ∃ q, q = tru vb := ⟨_, rfl⟩
 rw [← hp, ← hq] at HF
 obtain ⟨LL, hL⟩ : ∃ LL : Int, LL = if z then 1 else 0 := ⟨_, rfl⟩
 have HBB : Hid (∀ wx, Calls Try.prog 33 #[.bool z] wx fun e w' => e = .returned (.agg #[.int .i64 0, .int .u64 LL, .int .u64 0]) ∧ Below wx.heap.size wx w') := fun wx => by rw [hL]; exact bool_any z wx
 have HTA : Hid (∀ wx, Calls Try.prog 77 #[.agg #[.int .i64 va.w, .int .u64 va.lo, .int .u64 va.hi]] wx fun e w' => e = .returned (.bool p) ∧ Below wx.heap.size wx w') := fun wx => by rw [hp]; exact istrue_any va wx
 have HTB : Hid (∀ wx, Calls Try.prog 77 #[.agg #[.int .i64 vb.w, .int .u64 vb.lo, .int .u64 vb.hi]] wx fun e w' => e = .returned (.bool q) ∧ Below wx.heap.size wx w') := fun wx => by rw [hq]; exact istrue_any vb wx
 have HFF : Hid (∀ wx, Calls Try.prog 58 #[.bool p, .bool q] wx fun e w' => e = .returned (.bool z) ∧ Below wx.heap.size wx w') := fun wx => Calls.mono (HF.out wx) (fun e w' ⟨he, hw⟩ => ⟨he, by rw [hw]; exact Below.refl _ _⟩)
 show Calls Try.prog 78 #[.slice (some ⟨gb, o, none⟩) 2 cc, .pointer (some ⟨bo, 0, none⟩)] w fun e w' => e = .returned (.tuple #[.agg #[.int .i64 0, .int .u64 (if z then 1 else 0), .int .u64 0], .int .i64 0]) ∧ Below w.heap.size w w'
 rw [← hL]
 clear h hp hq hL HF
 obtain ⟨wU, hwU, hbU, hsU, hrU⟩ : ∃ wU, wU = w.alloc (.cells #[.int .i64 0, .int .u64 0, .int .u64 0] 25) ∧ Below w.heap.size w wU ∧ wU.heap.size = w.heap.size + 1 ∧ wU.heap[w.heap.size]? = some (.cells #[.int .i64 0, .int .u64 0, .int .u64 0] 25) := ⟨_, rfl, by go_grown, by simp, heap_alloc_new w _⟩
 have HRB : Hid (wU.heap[w.heap.size]? = some (.cells [.int .i64 0, .int .u64 0, .int .u64 0].toArray 25)) := hrU
 have HWU : Hid _ := hwU
 have hv2 : w.heap.size ≤ wU.heap.size := by omega
 clear hrU hwU hsU
 go_enter Try.func78, Try.ntmps78
 go_wp2_with fail
 rw [← HWU.out]
 refine wp_named fun a0 ha0 => ?_
 have o0 := old_at ha0 (t := 0) rfl
 have o1 := old_at ha0 (t := 1) rfl
 have o3 := old_at ha0 (t := 3) rfl
 refine wp_region_lin (S := LS wU w.heap.size 11 [.int .i64 0, .int .u64 0, .int .u64 0] [.int .i64 0, .int .u64 LL, .int .u64 0] 25) [] (fun _ => 0) (by kernel_rfl) (by kernel_rfl) (by rw [← ha0]; kernel_rfl) (LS.start HRB.out) ?_
 apply LinAll.cons0
 ·intro g L a x hLi haft hS hK; have t1 := (hK.old 1 (by kernel_rfl)).trans o1; (try dsimp only at t1); refine go_in (wanted_all rfl) ?_; intro K hk; have hBx : Below w.heap.size w x := hbU.trans (hS.below (Nat.le_refl _) hv2); have qo : x.cell? ⟨bo, 0, none⟩ = some (.func (.func 58) #[] #[]) := bel_cell hBx hbo hop; clear hBx; clear haft hK hLi; go_simp; exact hk.out g x (fun _ _ => rfl) (hS.go rfl)
 apply LinAll.cons0
 ·intro g L a x hLi haft hS hK; have t0 := (hK.old 0 (by kernel_rfl)).trans o0; (try dsimp only at t0); refine go_in (wanted_all rfl) ?_; intro K hk; clear haft hK hLi; go_simp; exact hk.out g x (fun _ _ => rfl) (hS.go rfl)
 apply LinAll.cons0
 ·intro g L a x hLi haft hS hK; have t6 := hK.nw haft 1 0 6 rfl (by kernel_rfl); (try dsimp only at t6); refine go_in (wanted_all rfl) ?_; intro K hk; clear haft hK hLi; go_simp; exact hk.out g x (fun _ _ => rfl) (hS.go rfl)
 apply LinAll.cons0
 ·intro g L a x hLi haft hS hK; have t7 := hK.nw haft 2 0 7 rfl (by kernel_rfl); (try dsimp only at t7); refine go_in (wanted_all rfl) ?_; intro K hk; have hBx : Below w.heap.size w x := hbU.trans (hS.below (Nat.le_refl _) hv2); have q0 : x.cell? ⟨gb, o, none⟩ = some (.int .i64 va.w) := bel_cell hBx hg va0; have q1 : x.cell? ⟨gb, o + 1, none⟩ = some (.int .u64 va.lo) := bel_cell hBx hg va1; have q2 : x.cell? ⟨gb, o + 2, none⟩ = some (.int .u64 va.hi) := bel_cell hBx hg va2; clear hBx; clear haft hK hLi; go_simp; exact hk.out g x (fun _ _ => rfl) (hS.go rfl)
 apply LinAll.cons0
 ·intro g L a x hLi haft hS hK; have t8 := hK.nw haft 3 0 8 rfl (by kernel_rfl); (try dsimp only at t8); refine go_in (wanted_all rfl) ?_; intro K hk; clear haft hK hLi; go_simp; refine Calls.mono (HTA.out _) ?_; rintro e y ⟨rfl, hb⟩; exact hk.out g y (fun _ _ => rfl) (hS.on hb rfl)
 apply LinAll.cons0
 ·intro g L a x hLi haft hS hK; have t0 := (hK.old 0 (by kernel_rfl)).trans o0; (try dsimp only at t0); refine go_in (wanted_all rfl) ?_; intro K hk; clear haft hK hLi; go_simp; exact hk.out g x (fun _ _ => rfl) (hS.go rfl)
 apply LinAll.cons0
 ·intro g L a x hLi haft hS hK; have t10 := hK.nw haft 5 0 10 rfl (by kernel_rfl); (try dsimp only at t10); refine go_in (wanted_all rfl) ?_; intro K hk; clear haft hK hLi; go_simp; exact hk.out g x (fun _ _ => rfl) (hS.go rfl)
 apply LinAll.cons0
 ·intro g L a x hLi haft hS hK; have t11 := hK.nw haft 6 0 11 rfl (by kernel_rfl); (try dsimp only at t11); refine go_in (wanted_all rfl) ?_; intro K hk; have hBx : Below w.heap.size w x := hbU.trans (hS.below (Nat.le_refl _) hv2); have q0 : x.cell? ⟨gb, o + 3, none⟩ = some (.int .i64 vb.w) := bel_cell hBx hg vb0; have q1 : x.cell? ⟨gb, o + 4, none⟩ = some (.int .u64 vb.lo) := bel_cell hBx hg vb1; have q2 : x.cell? ⟨gb, o + 5, none⟩ = some (.int .u64 vb.hi) := bel_cell hBx hg vb2; clear hBx; clear haft hK hLi; go_simp; exact hk.out g x (fun _ _ => rfl) (hS.go rfl)
 apply LinAll.cons0
 ·intro g L a x hLi haft hS hK; have t12 := hK.nw haft 7 0 12 rfl (by kernel_rfl); (try dsimp only at t12); refine go_in (wanted_all rfl) ?_; intro K hk; clear haft hK hLi; go_simp; refine Calls.mono (HTB.out _) ?_; rintro e y ⟨rfl, hb⟩; exact hk.out g y (fun _ _ => rfl) (hS.on hb rfl)
 apply LinAll.cons0
 ·intro g L a x hLi haft hS hK; have t5 := hK.nw haft 0 8 5 rfl (by kernel_rfl); have t9 := hK.nw haft 4 4 9 rfl (by kernel_rfl); have t13 := hK.nw haft 8 0 13 rfl (by kernel_rfl); (try dsimp only at t5 t9 t13); refine go_in (wanted_all rfl) ?_; intro K hk; clear haft hK hLi; go_simp; refine Calls.mono (HFF.out _) ?_; rintro e y ⟨rfl, hb⟩; exact hk.out g y (fun _ _ => rfl) (hS.on hb rfl)
 apply LinAll.cons0
 ·intro g L a x hLi haft hS hK; have t14 := hK.nw haft 9 0 14 rfl (by kernel_rfl); (try dsimp only at t14); refine go_in (wanted_all rfl) ?_; intro K hk; clear haft hK hLi; go_simp; refine Calls.mono (HBB.out _) ?_; rintro e y ⟨rfl, hb⟩; exact hk.out g y (fun _ _ => rfl) (hS.on hb rfl)
 refine LinAll.cons0 (v := fun _ => undef) ?_ ?_
 ·intro g L a x hLi haft hS hK; have t3 := (hK.old 3 (by kernel_rfl)).trans o3; have t15 := hK.nw haft 10 0 15 rfl (by kernel_rfl); (try dsimp only at t3 t15); refine go_in (wanted_all rfl) ?_; intro K hk; have hr0 := hS.rb; rw [hLi] at hr0; have q0 : x.cell? ⟨w.heap.size, 0, none⟩ = some (.int .i64 0) := cell_of hr0 0 rfl; have q1 : x.cell? ⟨w.heap.size, 1, none⟩ = some (.int .u64 0) := cell_of hr0 1 rfl; have q2 : x.cell? ⟨w.heap.size, 2, none⟩ = some (.int .u64 0) := cell_of hr0 2 rfl; have qf : ∀ j, x.frozen? ⟨w.heap.size, j, none⟩ = false := (fun j => by simp [World.frozen?, hr0]); have hst := hS.st3 hLi; clear hr0; clear haft hK; go_simp; exact hk.out g _ (fun _ _ => rfl) hst
 apply LinAll.cons0
 ·intro g L a x hLi haft hS hK; refine go_in (wanted_all rfl) ?_; intro K hk; clear haft hK hLi; go_simp; exact hk.out g x (fun _ _ => rfl) (hS.go rfl)
 refine LinAll.nil fun g x hS => ?_
 subst ha0
 simp only [Act.put, List.setIfInBounds_toArray, List.set_cons_zero, List.set_cons_succ]
 clear o0 o1 o3
 have r0 : x.cell? ⟨w.heap.size, 0, none⟩ = some (.int .i64 0) := cell_of hS.rb 0 rfl
 have r1 : x.cell? ⟨w.heap.size, 1, none⟩ = some (.int .u64 LL) := cell_of hS.rb 1 rfl
 have r2 : x.cell? ⟨w.heap.size, 2, none⟩ = some (.int .u64 0) := cell_of hS.rb 2 rfl
 have hB : Below w.heap.size w x := hbU.trans (hS.below (Nat.le_refl _) hv2)
 clear hS
 go_wp2_with fail
 refine bodyPost_ret (v := .tuple #[.agg #[.int .i64 0, .int .u64 LL, .int .u64 0], .int .i64 0]) (by simp [results, Try.results78, go_sem, r0, r1, r2]) rfl ?_
 exact ⟨rfl, hB⟩
theorem bools_cl3 {w : World} {gb o cc bo : Nat} {va vb : Bt} {z : Bool} (h : Lb w gb o [va, vb]) (hg : gb < w.heap.size) (hop : w.cell? ⟨bo, 0, none⟩ = some (.func (.func 59) #[] #[])) (hbo : bo < w.heap.size)
  (HF : Hid (∀ wx, Calls Try.prog 59 #[.bool (tru va), .bool (tru vb)] wx fun e w' => e = .returned (.bool z) ∧ w' = wx)) :
  Calls Try.prog 78 #[.slice (some ⟨gb, o, none⟩) 2 cc, .pointer (some ⟨bo, 0, none⟩)] w fun e w' => e = .returned (.tuple #[.agg #[.int .i64 (bT z).w, .int .u64 (bT z).lo, .int .u64 (bT z).hi], .int .i64 0]) ∧ Below w.heap.size w w' := by
 have va0 : w.cell? ⟨gb, o, none⟩ = some (.int .i64 va.w) := h 0 va rfl 0 _ rfl
 have va1 : w.cell? ⟨gb, o + 1, none⟩ = some (.int .u64 va.lo) := h 0 va rfl 1 _ rfl
 have va2 : w.cell? ⟨gb, o + 2, none⟩ = some (.int .u64 va.hi) := h 0 va rfl 2 _ rfl
 have vb0 : w.cell? ⟨gb, o + 3, none⟩ = some (.int .i64 vb.w) := h 1 vb rfl 0 _ rfl
 have vb1 : w.cell? ⟨gb, o + 4, none⟩ = some (.int .u64 vb.lo) := h 1 vb rfl 1 _ rfl
 have vb2 : w.cell? ⟨gb, o + 5, none⟩ = some (.int .u64 vb.hi) := h 1 vb rfl 2 _ rfl
 obtain ⟨p, hp⟩ : ∃ p, p = tru va := ⟨_, rfl⟩
 obtain ⟨q, hq⟩ : ∃ q, q = tru vb := ⟨_, rfl⟩
 rw [← hp, ← hq] at HF
 obtain ⟨LL, hL⟩ : ∃ LL : Int, LL = if z then 1 else 0 := ⟨_, rfl⟩
 have HBB : Hid (∀ wx, Calls Try.prog 33 #[.bool z] wx fun e w' => e = .returned (.agg #[.int .i64 0, .int .u64 LL, .int .u64 0]) ∧ Below wx.heap.size wx w') := fun wx => by rw [hL]; exact bool_any z wx
 have HTA : Hid (∀ wx, Calls Try.prog 77 #[.agg #[.int .i64 va.w, .int .u64 va.lo, .int .u64 va.hi]] wx fun e w' => e = .returned (.bool p) ∧ Below wx.heap.size wx w') := fun wx => by rw [hp]; exact istrue_any va wx
 have HTB : Hid (∀ wx, Calls Try.prog 77 #[.agg #[.int .i64 vb.w, .int .u64 vb.lo, .int .u64 vb.hi]] wx fun e w' => e = .returned (.bool q) ∧ Below wx.heap.size wx w') := fun wx => by rw [hq]; exact istrue_any vb wx
 have HFF : Hid (∀ wx, Calls Try.prog 59 #[.bool p, .bool q] wx fun e w' => e = .returned (.bool z) ∧ Below wx.heap.size wx w') := fun wx => Calls.mono (HF.out wx) (fun e w' ⟨he, hw⟩ => ⟨he, by rw [hw]; exact Below.refl _ _⟩)
 show Calls Try.prog 78 #[.slice (some ⟨gb, o, none⟩) 2 cc, .pointer (some ⟨bo, 0, none⟩)] w fun e w' => e = .returned (.tuple #[.agg #[.int .i64 0, .int .u64 (if z then 1 else 0), .int .u64 0], .int .i64 0]) ∧ Below w.heap.size w w'
 rw [← hL]
 clear h hp hq hL HF
 obtain ⟨wU, hwU, hbU, hsU, hrU⟩ : ∃ wU, wU = w.alloc (.cells #[.int .i64 0, .int .u64 0, .int .u64 0] 25) ∧ Below w.heap.size w wU ∧ wU.heap.size = w.heap.size + 1 ∧ wU.heap[w.heap.size]? = some (.cells #[.int .i64 0, .int .u64 0, .int .u64 0] 25) := ⟨_, rfl, by go_grown, by simp, heap_alloc_new w _⟩
 have HRB : Hid (wU.heap[w.heap.size]? = some (.cells [.int .i64 0, .int .u64 0, .int .u64 0].toArray 25)) := hrU
 have HWU : Hid _ := hwU
 have hv2 : w.heap.size ≤ wU.heap.size := by omega
 clear hrU hwU hsU
 go_enter Try.func78, Try.ntmps78
 go_wp2_with fail
 rw [← HWU.out]
 refine wp_named fun a0 ha0 => ?_
 have o0 := old_at ha0 (t := 0) rfl
 have o1 := old_at ha0 (t := 1) rfl
 have o3 := old_at ha0 (t := 3) rfl
 refine wp_region_lin (S := LS wU w.heap.size 11 [.int .i64 0, .int .u64 0, .int .u64 0] [.int .i64 0, .int .u64 LL, .int .u64 0] 25) [] (fun _ => 0) (by kernel_rfl) (by kernel_rfl) (by rw [← ha0]; kernel_rfl) (LS.start HRB.out) ?_
 apply LinAll.cons0
 ·intro g L a x hLi haft hS hK; have t1 := (hK.old 1 (by kernel_rfl)).trans o1; (try dsimp only at t1); refine go_in (wanted_all rfl) ?_; intro K hk; have hBx : Below w.heap.size w x := hbU.trans (hS.below (Nat.le_refl _) hv2); have qo : x.cell? ⟨bo, 0, none⟩ = some (.func (.func 59) #[] #[]) := bel_cell hBx hbo hop; clear hBx; clear haft hK hLi; go_simp; exact hk.out g x (fun _ _ => rfl) (hS.go rfl)
 apply LinAll.cons0
 ·intro g L a x hLi haft hS hK; have t0 := (hK.old 0 (by kernel_rfl)).trans o0; (try dsimp only at t0); refine go_in (wanted_all rfl) ?_; intro K hk; clear haft hK hLi; go_simp; exact hk.out g x (fun _ _ => rfl) (hS.go rfl)
 apply LinAll.cons0
 ·intro g L a x hLi haft hS hK; have t6 := hK.nw haft 1 0 6 rfl (by kernel_rfl); (try dsimp only at t6); refine go_in (wanted_all rfl) ?_; intro K hk; clear haft hK hLi; go_simp; exact hk.out g x (fun _ _ => rfl) (hS.go rfl)
 apply LinAll.cons0
 ·intro g L a x hLi haft hS hK; have t7 := hK.nw haft 2 0 7 rfl (by kernel_rfl); (try dsimp only at t7); refine go_in (wanted_all rfl) ?_; intro K hk; have hBx : Below w.heap.size w x := hbU.trans (hS.below (Nat.le_refl _) hv2); have q0 : x.cell? ⟨gb, o, none⟩ = some (.int .i64 va.w) := bel_cell hBx hg va0; have q1 : x.cell? ⟨gb, o + 1, none⟩ = some (.int .u64 va.lo) := bel_cell hBx hg va1; have q2 : x.cell? ⟨gb, o + 2, none⟩ = some (.int .u64 va.hi) := bel_cell hBx hg va2; clear hBx; clear haft hK hLi; go_simp; exact hk.out g x (fun _ _ => rfl) (hS.go rfl)
 apply LinAll.cons0
 ·intro g L a x hLi haft hS hK; have t8 := hK.nw haft 3 0 8 rfl (by kernel_rfl); (try dsimp only at t8); refine go_in (wanted_all rfl) ?_; intro K hk; clear haft hK hLi; go_simp; refine Calls.mono (HTA.out _) ?_; rintro e y ⟨rfl, hb⟩; exact hk.out g y (fun _ _ => rfl) (hS.on hb rfl)
 apply LinAll.cons0
 ·intro g L a x hLi haft hS hK; have t0 := (hK.old 0 (by kernel_rfl)).trans o0; (try dsimp only at t0); refine go_in (wanted_all rfl) ?_; intro K hk; clear haft hK hLi; go_simp; exact hk.out g x (fun _ _ => rfl) (hS.go rfl)
 apply LinAll.cons0
 ·intro g L a x hLi haft hS hK; have t10 := hK.nw haft 5 0 10 rfl (by kernel_rfl); (try dsimp only at t10); refine go_in (wanted_all rfl) ?_; intro K hk; clear haft hK hLi; go_simp; exact hk.out g x (fun _ _ => rfl) (hS.go rfl)
 apply LinAll.cons0
 ·intro g L a x hLi haft hS hK; have t11 := hK.nw haft 6 0 11 rfl (by kernel_rfl); (try dsimp only at t11); refine go_in (wanted_all rfl) ?_; intro K hk; have hBx : Below w.heap.size w x := hbU.trans (hS.below (Nat.le_refl _) hv2); have q0 : x.cell? ⟨gb, o + 3, none⟩ = some (.int .i64 vb.w) := bel_cell hBx hg vb0; have q1 : x.cell? ⟨gb, o + 4, none⟩ = some (.int .u64 vb.lo) := bel_cell hBx hg vb1; have q2 : x.cell? ⟨gb, o + 5, none⟩ = some (.int .u64 vb.hi) := bel_cell hBx hg vb2; clear hBx; clear haft hK hLi; go_simp; exact hk.out g x (fun _ _ => rfl) (hS.go rfl)
 apply LinAll.cons0
 ·intro g L a x hLi haft hS hK; have t12 := hK.nw haft 7 0 12 rfl (by kernel_rfl); (try dsimp only at t12); refine go_in (wanted_all rfl) ?_; intro K hk; clear haft hK hLi; go_simp; refine Calls.mono (HTB.out _) ?_; rintro e y ⟨rfl, hb⟩; exact hk.out g y (fun _ _ => rfl) (hS.on hb rfl)
 apply LinAll.cons0
 ·intro g L a x hLi haft hS hK; have t5 := hK.nw haft 0 8 5 rfl (by kernel_rfl); have t9 := hK.nw haft 4 4 9 rfl (by kernel_rfl); have t13 := hK.nw haft 8 0 13 rfl (by kernel_rfl); (try dsimp only at t5 t9 t13); refine go_in (wanted_all rfl) ?_; intro K hk; clear haft hK hLi; go_simp; refine Calls.mono (HFF.out _) ?_; rintro e y ⟨rfl, hb⟩; exact hk.out g y (fun _ _ => rfl) (hS.on hb rfl)
 apply LinAll.cons0
 ·intro g L a x hLi haft hS hK; have t14 := hK.nw haft 9 0 14 rfl (by kernel_rfl); (try dsimp only at t14); refine go_in (wanted_all rfl) ?_; intro K hk; clear haft hK hLi; go_simp; refine Calls.mono (HBB.out _) ?_; rintro e y ⟨rfl, hb⟩; exact hk.out g y (fun _ _ => rfl) (hS.on hb rfl)
 refine LinAll.cons0 (v := fun _ => undef) ?_ ?_
 ·intro g L a x hLi haft hS hK; have t3 := (hK.old 3 (by kernel_rfl)).trans o3; have t15 := hK.nw haft 10 0 15 rfl (by kernel_rfl); (try dsimp only at t3 t15); refine go_in (wanted_all rfl) ?_; intro K hk; have hr0 := hS.rb; rw [hLi] at hr0; have q0 : x.cell? ⟨w.heap.size, 0, none⟩ = some (.int .i64 0) := cell_of hr0 0 rfl; have q1 : x.cell? ⟨w.heap.size, 1, none⟩ = some (.int .u64 0) := cell_of hr0 1 rfl; have q2 : x.cell? ⟨w.heap.size, 2, none⟩ = some (.int .u64 0) := cell_of hr0 2 rfl; have qf : ∀ j, x.frozen? ⟨w.heap.size, j, none⟩ = false := (fun j => by simp [World.frozen?, hr0]); have hst := hS.st3 hLi; clear hr0; clear haft hK; go_simp; exact hk.out g _ (fun _ _ => rfl) hst
 apply LinAll.cons0
 ·intro g L a x hLi haft hS hK; refine go_in (wanted_all rfl) ?_; intro K hk; clear haft hK hLi; go_simp; exact hk.out g x (fun _ _ => rfl) (hS.go rfl)
 refine LinAll.nil fun g x hS => ?_
 subst ha0
 simp only [Act.put, List.setIfInBounds_toArray, List.set_cons_zero, List.set_cons_succ]
 clear o0 o1 o3
 have r0 : x.cell? ⟨w.heap.size, 0, none⟩ = some (.int .i64 0) := cell_of hS.rb 0 rfl
 have r1 : x.cell? ⟨w.heap.size, 1, none⟩ = some (.int .u64 LL) := cell_of hS.rb 1 rfl
 have r2 : x.cell? ⟨w.heap.size, 2, none⟩ = some (.int .u64 0) := cell_of hS.rb 2 rfl
 have hB : Below w.heap.size w x := hbU.trans (hS.below (Nat.le_refl _) hv2)
 clear hS
 go_wp2_with fail
 refine bodyPost_ret (v := .tuple #[.agg #[.int .i64 0, .int .u64 LL, .int .u64 0], .int .i64 0]) (by simp [results, Try.results78, go_sem, r0, r1, r2]) rfl ?_
 exact ⟨rfl, hB⟩
end Go.Proofs.Ytedldoobmmhloaa
