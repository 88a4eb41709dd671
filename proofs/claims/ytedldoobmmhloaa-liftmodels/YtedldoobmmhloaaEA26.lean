import Derived.Test.YtedldoobmmhloaaEA11
namespace Go.Proofs.Ytedldoobmmhloaa
set_option maxHeartbeats 12800000
set_option maxRecDepth 100000
open Go.RowKit
set_option linter.unusedSimpArgs false
set_option linter.unusedVariables false
theorem not_cl {w : World} {gb o cc : Nat} {va : Bt} (h : Lb w gb o [va]) (hg : gb < w.heap.size) :
  Calls Try.prog 55 #[.slice (some ⟨gb, o, none⟩) 1 cc] w fun e w' => e = .returned (.tuple #[.agg #[.int .i64 (bT (!tru va)).w, .int .u64 (bT (!tru va)).lo, .int .u64 (bT (!tru va)).hi], .int .i64 0]) ∧ Below w.heap.size w w' := by
 have va0 : w.cell? ⟨gb, o, none⟩ = some (.int .i64 va.w) := h 0 va rfl 0 _ rfl
 have va1 : w.cell? ⟨gb, o + 1, none⟩ = some (.int .u64 va.lo) := h 0 va rfl 1 _ rfl
 have va2 : w.cell? ⟨gb, o + 2, none⟩ = some (.int .u64 va.hi) := h 0 va rfl 2 _ rfl
 obtain ⟨p, hp⟩ : ∃ p, p = tru va := ⟨_, rfl⟩
 have HTA : Hid (∀ wx, Calls Try.prog 77 #[.agg #[.int .i64 va.w, .int .u64 va.lo, .int .u64 va.hi]] wx fun e w' => e = .returned (.bool p) ∧ Below wx.heap.size wx w') := fun wx => by rw [hp]; exact istrue_any va wx
 obtain ⟨LL, hL⟩ : ∃ LL : Int, LL = if (!p) then 1 else 0 := ⟨_, rfl⟩
 have HBB : Hid (∀ wx, Calls Try.prog 33 #[.bool (!p)] wx fun e w' => e = .returned (.agg #[.int .i64 0, .int .u64 LL, .int .u64 0]) ∧ Below wx.heap.size wx w') := fun wx => by rw [hL]; exact bool_any (!p) wx
 rw [← hp]
 show Calls Try.prog 55 #[.slice (some ⟨gb, o, none⟩) 1 cc] w fun e w' => e = .returned (.tuple #[.agg #[.int .i64 0, .int .u64 (if (!p) then 1 else 0), .int .u64 0], .int .i64 0]) ∧ Below w.heap.size w w'
 rw [← hL]
 clear h hp hL
 go_enter Try.func55, Try.ntmps55
 go_wp2_with fail
 refine (HTA.out _).mono ?_
 rintro e w1 ⟨rfl, hb⟩
 have hB : Below w.heap.size w w1 := Below.trans (by go_grown) (hb.mono (by simp))
 have hr : w1.heap[w.heap.size]? = some (.cells #[.int .i64 0, .int .u64 0, .int .u64 0] 25) := (hb.block _ (by simp)).trans (heap_alloc_new w _)
 have HR : Hid _ := hr
 clear hb hr
 go_wp2_with fail
 refine (HBB.out _).mono ?_
 rintro e w2 ⟨rfl, hb⟩
 have hB2 : Below w.heap.size w w2 := hB.trans (hb.mono hB.size)
 have hr4 : w2.heap[w.heap.size]? = _ := (hb.block _ (Array.getElem?_eq_some_iff.1 HR.out).1).trans HR.out
 have t0 : w2.cell? ⟨w.heap.size, 0, none⟩ = some (.int .i64 0) := cell_of hr4 0 rfl
 have t1 : w2.cell? ⟨w.heap.size, 1, none⟩ = some (.int .u64 0) := cell_of hr4 1 rfl
 have t2 : w2.cell? ⟨w.heap.size, 2, none⟩ = some (.int .u64 0) := cell_of hr4 2 rfl
 have tf : ∀ j, w2.frozen? ⟨w.heap.size, j, none⟩ = false := fun j => by simp [World.frozen?, hr4]
 clear hb HR hr4 hB
 go_wp2_with fail
 refine bodyPost_ret (v := .tuple #[.agg #[.int .i64 0, .int .u64 LL, .int .u64 0], .int .i64 0]) (by simp [results, Try.results55, go_sem, t0, t1, t2]) rfl ?_
 exact ⟨rfl, by go_grown⟩
theorem f_imp (x y : Bool) (w : World) : Calls Try.prog 60 #[.bool x, .bool y] w fun e w' => e = .returned (.bool (!x || y)) ∧ w' = w := by
 cases x
 ·go_enter Try.func60, Try.ntmps60
  go_wp2_with fail
  go_ret
  exact ⟨rfl, rfl⟩
 ·go_enter Try.func60, Try.ntmps60
  go_wp2_with fail
  go_ret
  exact ⟨by simp, rfl⟩
theorem cl_5 {w : World} {gb o cc bo0 : Nat} {va r : Bt} {er op : Int} (h : Lb w gb o [va]) (hg : gb < w.heap.size) (hop0 : w.cell? ⟨bo0, 0, none⟩ = some (.int .i64 op)) (hbo0 : bo0 < w.heap.size)
  (HT : Hid (∀ wx, Calls Try.prog 64 #[.int .i64 op, .agg #[.int .i64 va.w, .int .u64 va.lo, .int .u64 va.hi]] wx fun e w' => e = .returned (.tuple #[.agg #[.int .i64 r.w, .int .u64 r.lo, .int .u64 r.hi], .int .i64 er]) ∧ Below wx.heap.size wx w')) :
  Calls Try.prog 63 #[.slice (some ⟨gb, o, none⟩) 1 cc, .pointer (some ⟨bo0, 0, none⟩)] w fun e w' => e = .returned (.tuple #[.agg #[.int .i64 r.w, .int .u64 r.lo, .int .u64 r.hi], .int .i64 er]) ∧ Below w.heap.size w w' := by
 have va0 : w.cell? ⟨gb, o, none⟩ = some (.int .i64 va.w) := h 0 va rfl 0 _ rfl
 have va1 : w.cell? ⟨gb, o + 1, none⟩ = some (.int .u64 va.lo) := h 0 va rfl 1 _ rfl
 have va2 : w.cell? ⟨gb, o + 2, none⟩ = some (.int .u64 va.hi) := h 0 va rfl 2 _ rfl
 clear h
 obtain ⟨wU, hwU, hbU, hsU, hrU⟩ : ∃ wU, wU = w.alloc (.cells #[.int .i64 0, .int .u64 0, .int .u64 0] 25) ∧ Below w.heap.size w wU ∧ wU.heap.size = w.heap.size + 1 ∧ wU.heap[w.heap.size]? = some (.cells #[.int .i64 0, .int .u64 0, .int .u64 0] 25) := ⟨_, rfl, by go_grown, by simp, heap_alloc_new w _⟩
 have HRB : Hid (wU.heap[w.heap.size]? = some (.cells [.int .i64 0, .int .u64 0, .int .u64 0].toArray 25)) := hrU
 have HWU : Hid _ := hwU
 have hv2 : w.heap.size ≤ wU.heap.size := by omega
 clear hrU hwU hsU
 go_enter Try.func63, Try.ntmps63
 go_wp2_with fail
 rw [← HWU.out]
 refine wp_named fun a0 ha0 => ?_
 have o0 := old_at ha0 (t := 0) rfl
 have o1 := old_at ha0 (t := 1) rfl
 have o3 := old_at ha0 (t := 3) rfl
 refine wp_region_lin (S := LS wU w.heap.size 7 [.int .i64 0, .int .u64 0, .int .u64 0] [.int .i64 r.w, .int .u64 r.lo, .int .u64 r.hi] 25) [] (fun _ => 0) (by kernel_rfl) (by kernel_rfl) (by rw [← ha0]; kernel_rfl) (LS.start HRB.out) ?_
 apply LinAll.cons0
 ·intro g L a x hLi haft hS hK; have t1 := (hK.old 1 (by kernel_rfl)).trans o1; (try dsimp only at t1); refine go_in (wanted_all rfl) ?_; intro K hk; have hBx : Below w.heap.size w x := hbU.trans (hS.below (Nat.le_refl _) hv2); have qo : x.cell? ⟨bo0, 0, none⟩ = some (.int .i64 op) := bel_cell hBx hbo0 hop0; clear hBx; clear haft hK hLi; go_simp; exact hk.out g x (fun _ _ => rfl) (hS.go rfl)
 apply LinAll.cons0
 ·intro g L a x hLi haft hS hK; have t0 := (hK.old 0 (by kernel_rfl)).trans o0; (try dsimp only at t0); refine go_in (wanted_all rfl) ?_; intro K hk; clear haft hK hLi; go_simp; exact hk.out g x (fun _ _ => rfl) (hS.go rfl)
 apply LinAll.cons0
 ·intro g L a x hLi haft hS hK; have t6 := hK.nw haft 1 0 6 rfl (by kernel_rfl); (try dsimp only at t6); refine go_in (wanted_all rfl) ?_; intro K hk; clear haft hK hLi; go_simp; exact hk.out g x (fun _ _ => rfl) (hS.go rfl)
 apply LinAll.cons0
 ·intro g L a x hLi haft hS hK; have t7 := hK.nw haft 2 0 7 rfl (by kernel_rfl); (try dsimp only at t7); refine go_in (wanted_all rfl) ?_; intro K hk; have hBx : Below w.heap.size w x := hbU.trans (hS.below (Nat.le_refl _) hv2); have q0 : x.cell? ⟨gb, o, none⟩ = some (.int .i64 va.w) := bel_cell hBx hg va0; have q1 : x.cell? ⟨gb, o + 1, none⟩ = some (.int .u64 va.lo) := bel_cell hBx hg va1; have q2 : x.cell? ⟨gb, o + 2, none⟩ = some (.int .u64 va.hi) := bel_cell hBx hg va2; clear hBx; clear haft hK hLi; go_simp; exact hk.out g x (fun _ _ => rfl) (hS.go rfl)
 apply LinAll.cons0
 ·intro g L a x hLi haft hS hK; have t5 := hK.nw haft 0 3 5 rfl (by kernel_rfl); have t8 := hK.nw haft 3 0 8 rfl (by kernel_rfl); (try dsimp only at t5 t8); refine go_in (wanted_all rfl) ?_; intro K hk; clear haft hK hLi; go_simp; refine Calls.mono (HT.out _) ?_; rintro e y ⟨rfl, hb⟩; exact hk.out g y (fun _ _ => rfl) (hS.on hb rfl)
 apply LinAll.cons0
 ·intro g L a x hLi haft hS hK; have t9 := hK.nw haft 4 0 9 rfl (by kernel_rfl); (try dsimp only at t9); refine go_in (wanted_all rfl) ?_; intro K hk; clear haft hK hLi; go_simp; exact hk.out g x (fun _ _ => rfl) (hS.go rfl)
 apply LinAll.cons0
 ·intro g L a x hLi haft hS hK; have t9 := hK.nw haft 4 1 9 rfl (by kernel_rfl); (try dsimp only at t9); refine go_in (wanted_all rfl) ?_; intro K hk; clear haft hK hLi; go_simp; exact hk.out g x (fun _ _ => rfl) (hS.go rfl)
 refine LinAll.cons0 (v := fun _ => undef) ?_ ?_
 ·intro g L a x hLi haft hS hK; have t3 := (hK.old 3 (by kernel_rfl)).trans o3; have t10 := hK.nw haft 5 1 10 rfl (by kernel_rfl); (try dsimp only at t3 t10); refine go_in (wanted_all rfl) ?_; intro K hk; have hr0 := hS.rb; rw [hLi] at hr0; have q0 : x.cell? ⟨w.heap.size, 0, none⟩ = some (.int .i64 0) := cell_of hr0 0 rfl; have q1 : x.cell? ⟨w.heap.size, 1, none⟩ = some (.int .u64 0) := cell_of hr0 1 rfl; have q2 : x.cell? ⟨w.heap.size, 2, none⟩ = some (.int .u64 0) := cell_of hr0 2 rfl; have qf : ∀ j, x.frozen? ⟨w.heap.size, j, none⟩ = false := (fun j => by simp [World.frozen?, hr0]); have hst := hS.st3 hLi; clear hr0; clear haft hK; go_simp; exact hk.out g _ (fun _ _ => rfl) hst
 apply LinAll.cons0
 ·intro g L a x hLi haft hS hK; have t11 := hK.nw haft 6 1 11 rfl (by kernel_rfl); (try dsimp only at t11); refine go_in (wanted_all rfl) ?_; intro K hk; clear haft hK hLi; go_simp; exact hk.out g x (fun _ _ => rfl) (hS.go rfl)
 refine LinAll.nil fun g x hS => ?_
 subst ha0
 simp only [Act.put, List.setIfInBounds_toArray, List.set_cons_zero, List.set_cons_succ]
 clear o0 o1 o3
 have r0 : x.cell? ⟨w.heap.size, 0, none⟩ = some (.int .i64 r.w) := cell_of hS.rb 0 rfl
 have r1 : x.cell? ⟨w.heap.size, 1, none⟩ = some (.int .u64 r.lo) := cell_of hS.rb 1 rfl
 have r2 : x.cell? ⟨w.heap.size, 2, none⟩ = some (.int .u64 r.hi) := cell_of hS.rb 2 rfl
 have hB : Below w.heap.size w x := hbU.trans (hS.below (Nat.le_refl _) hv2)
 clear hS
 go_wp2_with fail
 refine bodyPost_ret (v := .tuple #[.agg #[.int .i64 r.w, .int .u64 r.lo, .int .u64 r.hi], .int .i64 er]) (by simp [results, Try.results63, go_sem, r0, r1, r2]) rfl ?_
 exact ⟨rfl, hB⟩
theorem cl_6 {w : World} {gb o cc  : Nat} {va vb r : Bt} {er : Int} (h : Lb w gb o [va, vb]) (hg : gb < w.heap.size) 
  (HT : Hid (∀ wx, Calls Try.prog 66 #[.agg #[.int .i64 va.w, .int .u64 va.lo, .int .u64 va.hi], .agg #[.int .i64 vb.w, .int .u64 vb.lo, .int .u64 vb.hi]] wx fun e w' => e = .returned (.tuple #[.agg #[.int .i64 r.w, .int .u64 r.lo, .int .u64 r.hi], .int .i64 er]) ∧ Below wx.heap.size wx w')) :
  Calls Try.prog 65 #[.slice (some ⟨gb, o, none⟩) 2 cc] w fun e w' => e = .returned (.tuple #[.agg #[.int .i64 r.w, .int .u64 r.lo, .int .u64 r.hi], .int .i64 er]) ∧ Below w.heap.size w w' := by
 have va0 : w.cell? ⟨gb, o, none⟩ = some (.int .i64 va.w) := h 0 va rfl 0 _ rfl
 have va1 : w.cell? ⟨gb, o + 1, none⟩ = some (.int .u64 va.lo) := h 0 va rfl 1 _ rfl
 have va2 : w.cell? ⟨gb, o + 2, none⟩ = some (.int .u64 va.hi) := h 0 va rfl 2 _ rfl
 have vb0 : w.cell? ⟨gb, o + 3, none⟩ = some (.int .i64 vb.w) := h 1 vb rfl 0 _ rfl
 have vb1 : w.cell? ⟨gb, o + 4, none⟩ = some (.int .u64 vb.lo) := h 1 vb rfl 1 _ rfl
 have vb2 : w.cell? ⟨gb, o + 5, none⟩ = some (.int .u64 vb.hi) := h 1 vb rfl 2 _ rfl
 clear h
 obtain ⟨wU, hwU, hbU, hsU, hrU⟩ : ∃ wU, wU = w.alloc (.cells #[.int .i64 0, .int .u64 0, .int .u64 0] 25) ∧ Below w.heap.size w wU ∧ wU.heap.size = w.heap.size + 1 ∧ wU.heap[w.heap.size]? = some (.cells #[.int .i64 0, .int .u64 0, .int .u64 0] 25) := ⟨_, rfl, by go_grown, by simp, heap_alloc_new w _⟩
 have HRB : Hid (wU.heap[w.heap.size]? = some (.cells [.int .i64 0, .int .u64 0, .int .u64 0].toArray 25)) := hrU
 have HWU : Hid _ := hwU
 have hv2 : w.heap.size ≤ wU.heap.size := by omega
 clear hrU hwU hsU
 go_enter Try.func65, Try.ntmps65
 go_wp2_with fail
 rw [← HWU.out]
 refine wp_named fun a0 ha0 => ?_
 have o0 := old_at ha0 (t := 0) rfl
 have o2 := old_at ha0 (t := 2) rfl
 refine wp_region_lin (S := LS wU w.heap.size 9 [.int .i64 0, .int .u64 0, .int .u64 0] [.int .i64 r.w, .int .u64 r.lo, .int .u64 r.hi] 25) [] (fun _ => 0) (by kernel_rfl) (by kernel_rfl) (by rw [← ha0]; kernel_rfl) (LS.start HRB.out) ?_
 apply LinAll.cons0
 ·intro g L a x hLi haft hS hK; have t0 := (hK.old 0 (by kernel_rfl)).trans o0; (try dsimp only at t0); refine go_in (wanted_all rfl) ?_; intro K hk; clear haft hK hLi; go_simp; exact hk.out g x (fun _ _ => rfl) (hS.go rfl)
 apply LinAll.cons0
 ·intro g L a x hLi haft hS hK; have t4 := hK.nw haft 0 0 4 rfl (by kernel_rfl); (try dsimp only at t4); refine go_in (wanted_all rfl) ?_; intro K hk; clear haft hK hLi; go_simp; exact hk.out g x (fun _ _ => rfl) (hS.go rfl)
 apply LinAll.cons0
 ·intro g L a x hLi haft hS hK; have t5 := hK.nw haft 1 0 5 rfl (by kernel_rfl); (try dsimp only at t5); refine go_in (wanted_all rfl) ?_; intro K hk; have hBx : Below w.heap.size w x := hbU.trans (hS.below (Nat.le_refl _) hv2); have q0 : x.cell? ⟨gb, o, none⟩ = some (.int .i64 va.w) := bel_cell hBx hg va0; have q1 : x.cell? ⟨gb, o + 1, none⟩ = some (.int .u64 va.lo) := bel_cell hBx hg va1; have q2 : x.cell? ⟨gb, o + 2, none⟩ = some (.int .u64 va.hi) := bel_cell hBx hg va2; clear hBx; clear haft hK hLi; go_simp; exact hk.out g x (fun _ _ => rfl) (hS.go rfl)
 apply LinAll.cons0
 ·intro g L a x hLi haft hS hK; have t0 := (hK.old 0 (by kernel_rfl)).trans o0; (try dsimp only at t0); refine go_in (wanted_all rfl) ?_; intro K hk; clear haft hK hLi; go_simp; exact hk.out g x (fun _ _ => rfl) (hS.go rfl)
 apply LinAll.cons0
 ·intro g L a x hLi haft hS hK; have t7 := hK.nw haft 3 0 7 rfl (by kernel_rfl); (try dsimp only at t7); refine go_in (wanted_all rfl) ?_; intro K hk; clear haft hK hLi; go_simp; exact hk.out g x (fun _ _ => rfl) (hS.go rfl)
 apply LinAll.cons0
 ·intro g L a x hLi haft hS hK; have t8 := hK.nw haft 4 0 8 rfl (by kernel_rfl); (try dsimp only at t8); refine go_in (wanted_all rfl) ?_; intro K hk; have hBx : Below w.heap.size w x := hbU.trans (hS.below (Nat.le_refl _) hv2); have q0 : x.cell? ⟨gb, o + 3, none⟩ = some (.int .i64 vb.w) := bel_cell hBx hg vb0; have q1 : x.cell? ⟨gb, o + 4, none⟩ = some (.int .u64 vb.lo) := bel_cell hBx hg vb1; have q2 : x.cell? ⟨gb, o + 5, none⟩ = some (.int .u64 vb.hi) := bel_cell hBx hg vb2; clear hBx; clear haft hK hLi; go_simp; exact hk.out g x (fun _ _ => rfl) (hS.go rfl)
 apply LinAll.cons0
 ·intro g L a x hLi haft hS hK; have t6 := hK.nw haft 2 3 6 rfl (by kernel_rfl); have t9 := hK.nw haft 5 0 9 rfl (by kernel_rfl); (try dsimp only at t6 t9); refine go_in (wanted_all rfl) ?_; intro K hk; clear haft hK hLi; go_simp; refine Calls.mono (HT.out _) ?_; rintro e y ⟨rfl, hb⟩; exact hk.out g y (fun _ _ => rfl) (hS.on hb rfl)
 apply LinAll.cons0
 ·intro g L a x hLi haft hS hK; have t10 := hK.nw haft 6 0 10 rfl (by kernel_rfl); (try dsimp only at t10); refine go_in (wanted_all rfl) ?_; intro K hk; clear haft hK hLi; go_simp; exact hk.out g x (fun _ _ => rfl) (hS.go rfl)
 apply LinAll.cons0
 ·intro g L a x hLi haft hS hK; have t10 := hK.nw haft 6 1 10 rfl (by kernel_rfl); (try dsimp only at t10); refine go_in (wanted_all rfl) ?_; intro K hk; clear haft hK hLi; go_simp; exact hk.out g x (fun _ _ => rfl) (hS.go rfl)
 refine LinAll.cons0 (v := fun _ => undef) ?_ ?_
 ·intro g L a x hLi haft hS hK; have t2 := (hK.old 2 (by kernel_rfl)).trans o2; have t11 := hK.nw haft 7 1 11 rfl (by kernel_rfl); (try dsimp only at t2 t11); refine go_in (wanted_all rfl) ?_; intro K hk; have hr0 := hS.rb; rw [hLi] at hr0; have q0 : x.cell? ⟨w.heap.size, 0, none⟩ = some (.int .i64 0) := cell_of hr0 0 rfl; have q1 : x.cell? ⟨w.heap.size, 1, none⟩ = some (.int .u64 0) := cell_of hr0 1 rfl; have q2 : x.cell? ⟨w.heap.size, 2, none⟩ = some (.int .u64 0) := cell_of hr0 2 rfl; have qf : ∀ j, x.frozen? ⟨w.heap.size, j, none⟩ = false := (fun j => by simp [World.frozen?, hr0]); have hst := hS.st3 hLi; clear hr0; clear haft hK; go_simp; exact hk.out g _ (fun _ _ => rfl) hst
 apply LinAll.cons0
 ·intro g L a x hLi haft hS hK; have t12 := hK.nw haft 8 1 12 rfl (by kernel_rfl); (try dsimp only at t12); refine go_in (wanted_all rfl) ?_; intro K hk; clear haft hK hLi; go_simp; exact hk.out g x (fun _ _ => rfl) (hS.go rfl)
 refine LinAll.nil fun g x hS => ?_
 subst ha0
 simp only [Act.put, List.setIfInBounds_toArray, List.set_cons_zero, List.set_cons_succ]
 clear o0 o2
 have r0 : x.cell? ⟨w.heap.size, 0, none⟩ = some (.int .i64 r.w) := cell_of hS.rb 0 rfl
 have r1 : x.cell? ⟨w.heap.size, 1, none⟩ = some (.int .u64 r.lo) := cell_of hS.rb 1 rfl
 have r2 : x.cell? ⟨w.heap.size, 2, none⟩ = some (.int .u64 r.hi) := cell_of hS.rb 2 rfl
 have hB : Below w.heap.size w x := hbU.trans (hS.below (Nat.le_refl _) hv2)
 clear hS
 go_wp2_with fail
 refine bodyPost_ret (v := .tuple #[.agg #[.int .i64 r.w, .int .u64 r.lo, .int .u64 r.hi], .int .i64 er]) (by simp [results, Try.results65, go_sem, r0, r1, r2]) rfl ?_
 exact ⟨rfl, hB⟩
theorem cl_7 {w : World} {gb o cc bo0 bo1 : Nat} {va r : Bt} {er p q : Int} (h : Lb w gb o [va]) (hg : gb < w.heap.size) (hop0 : w.cell? ⟨bo0, 0, none⟩ = some (.int .i64 p)) (hbo0 : bo0 < w.heap.size) (hop1 : w.cell? ⟨bo1, 0, none⟩ = some (.int .i64 q)) (hbo1 : bo1 < w.heap.size)
  (HT : Hid (∀ wx, Calls Try.prog 68 #[.agg #[.int .i64 va.w, .int .u64 va.lo, .int .u64 va.hi], .int .i64 p, .int .i64 q] wx fun e w' => e = .returned (.tuple #[.agg #[.int .i64 r.w, .int .u64 r.lo, .int .u64 r.hi], .int .i64 er]) ∧ Below wx.heap.size wx w')) :
  Calls Try.prog 67 #[.slice (some ⟨gb, o, none⟩) 1 cc, .pointer (some ⟨bo0, 0, none⟩), .pointer (some ⟨bo1, 0, none⟩)] w fun e w' => e = .returned (.tuple #[.agg #[.int .i64 r.w, .int .u64 r.lo, .int .u64 r.hi], .int .i64 er]) ∧ Below w.heap.size w w' := by
 have va0 : w.cell? ⟨gb, o, none⟩ = some (.int .i64 va.w) := h 0 va rfl 0 _ rfl
 have va1 : w.cell? ⟨gb, o + 1, none⟩ = some (.int .u64 va.lo) := h 0 va rfl 1 _ rfl
 have va2 : w.cell? ⟨gb, o + 2, none⟩ = some (.int .u64 va.hi) := h 0 va rfl 2 _ rfl
 clear h
 obtain ⟨wU, hwU, hbU, hsU, hrU⟩ : ∃ wU, wU = w.alloc (.cells #[.int .i64 0, .int .u64 0, .int .u64 0] 25) ∧ Below w.heap.size w wU ∧ wU.heap.size = w.heap.size + 1 ∧ wU.heap[w.heap.size]? = some (.cells #[.int .i64 0, .int .u64 0, .int .u64 0] 25) := ⟨_, rfl, by go_grown, by simp, heap_alloc_new w _⟩
 have HRB : Hid (wU.heap[w.heap.size]? = some (.cells [.int .i64 0, .int .u64 0, .int .u64 0].toArray 25)) := hrU
 have HWU : Hid _ := hwU
 have hv2 : w.heap.size ≤ wU.heap.size := by omega
 clear hrU hwU hsU
 go_enter Try.func67, Try.ntmps67
 go_wp2_with fail
 rw [← HWU.out]
 refine wp_named fun a0 ha0 => ?_
 have o0 := old_at ha0 (t := 0) rfl
 have o1 := old_at ha0 (t := 1) rfl
 have o2 := old_at ha0 (t := 2) rfl
 have o4 := old_at ha0 (t := 4) rfl
 refine wp_region_lin (S := LS wU w.heap.size 8 [.int .i64 0, .int .u64 0, .int .u64 0] [.int .i64 r.w, .int .u64 r.lo, .int .u64 r.hi] 25) [] (fun _ => 0) (by kernel_rfl) (by kernel_rfl) (by rw [← ha0]; kernel_rfl) (LS.start HRB.out) ?_
 apply LinAll.cons0
 ·intro g L a x hLi haft hS hK; have t0 := (hK.old 0 (by kernel_rfl)).trans o0; (try dsimp only at t0); refine go_in (wanted_all rfl) ?_; intro K hk; clear haft hK hLi; go_simp; exact hk.out g x (fun _ _ => rfl) (hS.go rfl)
 apply LinAll.cons0
 ·intro g L a x hLi haft hS hK; have t6 := hK.nw haft 0 0 6 rfl (by kernel_rfl); (try dsimp only at t6); refine go_in (wanted_all rfl) ?_; intro K hk; clear haft hK hLi; go_simp; exact hk.out g x (fun _ _ => rfl) (hS.go rfl)
 apply LinAll.cons0
 ·intro g L a x hLi haft hS hK; have t7 := hK.nw haft 1 0 7 rfl (by kernel_rfl); (try dsimp only at t7); refine go_in (wanted_all rfl) ?_; intro K hk; have hBx : Below w.heap.size w x := hbU.trans (hS.below (Nat.le_refl _) hv2); have q0 : x.cell? ⟨gb, o, none⟩ = some (.int .i64 va.w) := bel_cell hBx hg va0; have q1 : x.cell? ⟨gb, o + 1, none⟩ = some (.int .u64 va.lo) := bel_cell hBx hg va1; have q2 : x.cell? ⟨gb, o + 2, none⟩ = some (.int .u64 va.hi) := bel_cell hBx hg va2; clear hBx; clear haft hK hLi; go_simp; exact hk.out g x (fun _ _ => rfl) (hS.go rfl)
 apply LinAll.cons0
 ·intro g L a x hLi haft hS hK; have t1 := (hK.old 1 (by kernel_rfl)).trans o1; (try dsimp only at t1); refine go_in (wanted_all rfl) ?_; intro K hk; have hBx : Below w.heap.size w x := hbU.trans (hS.below (Nat.le_refl _) hv2); have qo : x.cell? ⟨bo0, 0, none⟩ = some (.int .i64 p) := bel_cell hBx hbo0 hop0; clear hBx; clear haft hK hLi; go_simp; exact hk.out g x (fun _ _ => rfl) (hS.go rfl)
 apply LinAll.cons0
 ·intro g L a x hLi haft hS hK; have t2 := (hK.old 2 (by kernel_rfl)).trans o2; (try dsimp only at t2); refine go_in (wanted_all rfl) ?_; intro K hk; have hBx : Below w.heap.size w x := hbU.trans (hS.below (Nat.le_refl _) hv2); have qo : x.cell? ⟨bo1, 0, none⟩ = some (.int .i64 q) := bel_cell hBx hbo1 hop1; clear hBx; clear haft hK hLi; go_simp; exact hk.out g x (fun _ _ => rfl) (hS.go rfl)
 apply LinAll.cons0
 ·intro g L a x hLi haft hS hK; have t8 := hK.nw haft 2 2 8 rfl (by kernel_rfl); have t9 := hK.nw haft 3 1 9 rfl (by kernel_rfl); have t10 := hK.nw haft 4 0 10 rfl (by kernel_rfl); (try dsimp only at t8 t9 t10); refine go_in (wanted_all rfl) ?_; intro K hk; clear haft hK hLi; go_simp; refine Calls.mono (HT.out _) ?_; rintro e y ⟨rfl, hb⟩; exact hk.out g y (fun _ _ => rfl) (hS.on hb rfl)
 apply LinAll.cons0
 ·intro g L a x hLi haft hS hK; have t11 := hK.nw haft 5 0 11 rfl (by kernel_rfl); (try dsimp only at t11); refine go_in (wanted_all rfl) ?_; intro K hk; clear haft hK hLi; go_simp; exact hk.out g x (fun _ _ => rfl) (hS.go rfl)
 apply LinAll.cons0
 ·intro g L a x hLi haft hS hK; have t11 := hK.nw haft 5 1 11 rfl (by kernel_rfl); (try dsimp only at t11); refine go_in (wanted_all rfl) ?_; intro K hk; clear haft hK hLi; go_simp; exact hk.out g x (fun _ _ => rfl) (hS.go rfl)
 refine LinAll.cons0 (v := fun _ => undef) ?_ ?_
 ·intro g L a x hLi haft hS hK; have t4 := (hK.old 4 (by kernel_rfl)).trans o4; have t12 := hK.nw haft 6 1 12 rfl (by kernel_rfl); (try dsimp only at t4 t12); refine go_in (wanted_all rfl) ?_; intro K hk; have hr0 := hS.rb; rw [hLi] at hr0; have q0 : x.cell? ⟨w.heap.size, 0, none⟩ = some (.int .i64 0) := cell_of hr0 0 rfl; have q1 : x.cell? ⟨w.heap.size, 1, none⟩ = some (.int .u64 0) := cell_of hr0 1 rfl; have q2 : x.cell? ⟨w.heap.size, 2, none⟩ = some (.int .u64 0) := cell_of hr0 2 rfl; have qf : ∀ j, x.frozen? ⟨w.heap.size, j, none⟩ = false := (fun j => by simp [World.frozen?, hr0]); have hst := hS.st3 hLi; clear hr0; clear haft hK; go_simp; exact hk.out g _ (fun _ _ => rfl) hst
 apply LinAll.cons0
 ·intro g L a x hLi haft hS hK; have t13 := hK.nw haft 7 1 13 rfl (by kernel_rfl); (try dsimp only at t13); refine go_in (wanted_all rfl) ?_; intro K hk; clear haft hK hLi; go_simp; exact hk.out g x (fun _ _ => rfl) (hS.go rfl)
 refine LinAll.nil fun g x hS => ?_
 subst ha0
 simp only [Act.put, List.setIfInBounds_toArray, List.set_cons_zero, List.set_cons_succ]
 clear o0 o1 o2 o4
 have r0 : x.cell? ⟨w.heap.size, 0, none⟩ = some (.int .i64 r.w) := cell_of hS.rb 0 rfl
 have r1 : x.cell? ⟨w.heap.size, 1, none⟩ = some (.int .u64 r.lo) := cell_of hS.rb 1 rfl
 have r2 : x.cell? ⟨w.heap.size, 2, none⟩ = some (.int .u64 r.hi) := cell_of hS.rb 2 rfl
 have hB : Below w.heap.size w x := hbU.trans (hS.below (Nat.le_refl _) hv2)
 clear hS
 go_wp2_with fail
 refine bodyPost_ret (v := .tuple #[.agg #[.int .i64 r.w, .int .u64 r.lo, .int .u64 r.hi], .int .i64 er]) (by simp [results, Try.results67, go_sem, r0, r1, r2]) rfl ?_
 exact ⟨rfl, hB⟩
theorem cl_8 {w : World} {gb o cc bo0 bo1 : Nat} {va r : Bt} {er op p : Int} (h : Lb w gb o [va]) (hg : gb < w.heap.size) (hop0 : w.cell? ⟨bo0, 0, none⟩ = some (.int .i64 p)) (hbo0 : bo0 < w.heap.size) (hop1 : w.cell? ⟨bo1, 0, none⟩ = some (.int .i64 op)) (hbo1 : bo1 < w.heap.size) {cb : Bool} (hcb : (op == 41) = cb)
  (HT : Hid (∀ wx, Calls Try.prog 70 #[.agg #[.int .i64 va.w, .int .u64 va.lo, .int .u64 va.hi], .int .i64 p, .bool cb] wx fun e w' => e = .returned (.tuple #[.agg #[.int .i64 r.w, .int .u64 r.lo, .int .u64 r.hi], .int .i64 er]) ∧ Below wx.heap.size wx w')) :
  Calls Try.prog 69 #[.slice (some ⟨gb, o, none⟩) 1 cc, .pointer (some ⟨bo0, 0, none⟩), .pointer (some ⟨bo1, 0, none⟩)] w fun e w' => e = .returned (.tuple #[.agg #[.int .i64 r.w, .int .u64 r.lo, .int .u64 r.hi], .int .i64 er]) ∧ Below w.heap.size w w' := by
 have va0 : w.cell? ⟨gb, o, none⟩ = some (.int .i64 va.w) := h 0 va rfl 0 _ rfl
 have va1 : w.cell? ⟨gb, o + 1, none⟩ = some (.int .u64 va.lo) := h 0 va rfl 1 _ rfl
 have va2 : w.cell? ⟨gb, o + 2, none⟩ = some (.int .u64 va.hi) := h 0 va rfl 2 _ rfl
 clear h
 obtain ⟨wU, hwU, hbU, hsU, hrU⟩ : ∃ wU, wU = w.alloc (.cells #[.int .i64 0, .int .u64 0, .int .u64 0] 25) ∧ Below w.heap.size w wU ∧ wU.heap.size = w.heap.size + 1 ∧ wU.heap[w.heap.size]? = some (.cells #[.int .i64 0, .int .u64 0, .int .u64 0] 25) := ⟨_, rfl, by go_grown, by simp, heap_alloc_new w _⟩
 have HRB : Hid (wU.heap[w.heap.size]? = some (.cells [.int .i64 0, .int .u64 0, .int .u64 0].toArray 25)) := hrU
 have HWU : Hid _ := hwU
 have hv2 : w.heap.size ≤ wU.heap.size := by omega
 clear hrU hwU hsU
 go_enter Try.func69, Try.ntmps69
 go_wp2_with fail
 rw [← HWU.out]
 refine wp_named fun a0 ha0 => ?_
 have o0 := old_at ha0 (t := 0) rfl
 have o1 := old_at ha0 (t := 1) rfl
 have o2 := old_at ha0 (t := 2) rfl
 have o4 := old_at ha0 (t := 4) rfl
 refine wp_region_lin (S := LS wU w.heap.size 9 [.int .i64 0, .int .u64 0, .int .u64 0] [.int .i64 r.w, .int .u64 r.lo, .int .u64 r.hi] 25) [] (fun _ => 0) (by kernel_rfl) (by kernel_rfl) (by rw [← ha0]; kernel_rfl) (LS.start HRB.out) ?_
 apply LinAll.cons0
 ·intro g L a x hLi haft hS hK; have t0 := (hK.old 0 (by kernel_rfl)).trans o0; (try dsimp only at t0); refine go_in (wanted_all rfl) ?_; intro K hk; clear haft hK hLi; go_simp; exact hk.out g x (fun _ _ => rfl) (hS.go rfl)
 apply LinAll.cons0
 ·intro g L a x hLi haft hS hK; have t6 := hK.nw haft 0 0 6 rfl (by kernel_rfl); (try dsimp only at t6); refine go_in (wanted_all rfl) ?_; intro K hk; clear haft hK hLi; go_simp; exact hk.out g x (fun _ _ => rfl) (hS.go rfl)
 apply LinAll.cons0
 ·intro g L a x hLi haft hS hK; have t7 := hK.nw haft 1 0 7 rfl (by kernel_rfl); (try dsimp only at t7); refine go_in (wanted_all rfl) ?_; intro K hk; have hBx : Below w.heap.size w x := hbU.trans (hS.below (Nat.le_refl _) hv2); have q0 : x.cell? ⟨gb, o, none⟩ = some (.int .i64 va.w) := bel_cell hBx hg va0; have q1 : x.cell? ⟨gb, o + 1, none⟩ = some (.int .u64 va.lo) := bel_cell hBx hg va1; have q2 : x.cell? ⟨gb, o + 2, none⟩ = some (.int .u64 va.hi) := bel_cell hBx hg va2; clear hBx; clear haft hK hLi; go_simp; exact hk.out g x (fun _ _ => rfl) (hS.go rfl)
 apply LinAll.cons0
 ·intro g L a x hLi haft hS hK; have t1 := (hK.old 1 (by kernel_rfl)).trans o1; (try dsimp only at t1); refine go_in (wanted_all rfl) ?_; intro K hk; have hBx : Below w.heap.size w x := hbU.trans (hS.below (Nat.le_refl _) hv2); have qo : x.cell? ⟨bo0, 0, none⟩ = some (.int .i64 p) := bel_cell hBx hbo0 hop0; clear hBx; clear haft hK hLi; go_simp; exact hk.out g x (fun _ _ => rfl) (hS.go rfl)
 apply LinAll.cons0
 ·intro g L a x hLi haft hS hK; have t2 := (hK.old 2 (by kernel_rfl)).trans o2; (try dsimp only at t2); refine go_in (wanted_all rfl) ?_; intro K hk; have hBx : Below w.heap.size w x := hbU.trans (hS.below (Nat.le_refl _) hv2); have qo : x.cell? ⟨bo1, 0, none⟩ = some (.int .i64 op) := bel_cell hBx hbo1 hop1; clear hBx; clear haft hK hLi; go_simp; exact hk.out g x (fun _ _ => rfl) (hS.go rfl)
 apply LinAll.cons0
 ·intro g L a x hLi haft hS hK; have t10 := hK.nw haft 4 0 10 rfl (by kernel_rfl); (try dsimp only at t10); refine go_in (wanted_all rfl) ?_; intro K hk; clear haft hK hLi; go_simp; exact hk.out g x (fun _ _ => rfl) (hS.go rfl)
 apply LinAll.cons0
 ·intro g L a x hLi haft hS hK; have t8 := hK.nw haft 2 3 8 rfl (by kernel_rfl); have t9 := hK.nw haft 3 2 9 rfl (by kernel_rfl); have t11 := hK.nw haft 5 0 11 rfl (by kernel_rfl); (try dsimp only at t8 t9 t11); refine go_in (wanted_all rfl) ?_; intro K hk; clear haft hK hLi; go_simp; refine Calls.mono (HT.out _) ?_; rintro e y ⟨rfl, hb⟩; exact hk.out g y (fun _ _ => rfl) (hS.on hb rfl)
 apply LinAll.cons0
 ·intro g L a x hLi haft hS hK; have t12 := hK.nw haft 6 0 12 rfl (by kernel_rfl); (try dsimp only at t12); refine go_in (wanted_all rfl) ?_; intro K hk; clear haft hK hLi; go_simp; exact hk.out g x (fun _ _ => rfl) (hS.go rfl)
 apply LinAll.cons0
 ·intro g L a x hLi haft hS hK; have t12 := hK.nw haft 6 1 12 rfl (by kernel_rfl); (try dsimp only at t12); refine go_in (wanted_all rfl) ?_; intro K hk; clear haft hK hLi; go_simp; exact hk.out g x (fun _ _ => rfl) (hS.go rfl)
 refine LinAll.cons0 (v := fun _ => undef) ?_ ?_
 ·intro g L a x hLi haft hS hK; have t4 := (hK.old 4 (by kernel_rfl)).trans o4; have t13 := hK.nw haft 7 1 13 rfl (by kernel_rfl); (try dsimp only at t4 t13); refine go_in (wanted_all rfl) ?_; intro K hk; have hr0 := hS.rb; rw [hLi] at hr0; have q0 : x.cell? ⟨w.heap.size, 0, none⟩ = some (.int .i64 0) := cell_of hr0 0 rfl; have q1 : x.cell? ⟨w.heap.size, 1, none⟩ = some (.int .u64 0) := cell_of hr0 1 rfl; have q2 : x.cell? ⟨w.heap.size, 2, none⟩ = some (.int .u64 0) := cell_of hr0 2 rfl; have qf : ∀ j, x.frozen? ⟨w.heap.size, j, none⟩ = false := (fun j => by simp [World.frozen?, hr0]); have hst := hS.st3 hLi; clear hr0; clear haft hK; go_simp; exact hk.out g _ (fun _ _ => rfl) hst
 apply LinAll.cons0
 ·intro g L a x hLi haft hS hK; have t14 := hK.nw haft 8 1 14 rfl (by kernel_rfl); (try dsimp only at t14); refine go_in (wanted_all rfl) ?_; intro K hk; clear haft hK hLi; go_simp; exact hk.out g x (fun _ _ => rfl) (hS.go rfl)
 refine LinAll.nil fun g x hS => ?_
 subst ha0
 simp only [Act.put, List.setIfInBounds_toArray, List.set_cons_zero, List.set_cons_succ]
 clear o0 o1 o2 o4
 have r0 : x.cell? ⟨w.heap.size, 0, none⟩ = some (.int .i64 r.w) := cell_of hS.rb 0 rfl
 have r1 : x.cell? ⟨w.heap.size, 1, none⟩ = some (.int .u64 r.lo) := cell_of hS.rb 1 rfl
 have r2 : x.cell? ⟨w.heap.size, 2, none⟩ = some (.int .u64 r.hi) := cell_of hS.rb 2 rfl
 have hB : Below w.heap.size w x := hbU.trans (hS.below (Nat.le_refl _) hv2)
 clear hS
 go_wp2_with fail
 refine bodyPost_ret (v := .tuple #[.agg #[.int .i64 r.w, .int .u64 r.lo, .int .u64 r.hi], .int .i64 er]) (by simp [results, Try.results69, go_sem, r0, r1, r2]) rfl ?_
 exact ⟨rfl, hB⟩
theorem cl_9 {w : World} {gb o cc bo0 bo1 : Nat} {va r : Bt} {er op p : Int} (h : Lb w gb o [va]) (hg : gb < w.heap.size) (hop0 : w.cell? ⟨bo0, 0, none⟩ = some (.int .i64 p)) (hbo0 : bo0 < w.heap.size) (hop1 : w.cell? ⟨bo1, 0, none⟩ = some (.int .i64 op)) (hbo1 : bo1 < w.heap.size) {cb : Bool} (hcb : (op == 42) = cb)
  (HT : Hid (∀ wx, Calls Try.prog 72 #[.agg #[.int .i64 va.w, .int .u64 va.lo, .int .u64 va.hi], .int .i64 p, .bool cb] wx fun e w' => e = .returned (.tuple #[.agg #[.int .i64 r.w, .int .u64 r.lo, .int .u64 r.hi], .int .i64 er]) ∧ Below wx.heap.size wx w')) :
  Calls Try.prog 71 #[.slice (some ⟨gb, o, none⟩) 1 cc, .pointer (some ⟨bo0, 0, none⟩), .pointer (some ⟨bo1, 0, none⟩)] w fun e w' => e = .returned (.tuple #[.agg #[.int .i64 r.w, .int .u64 r.lo, .int .u64 r.hi], .int .i64 er]) ∧ Below w.heap.size w w' := by
 have va0 : w.cell? ⟨gb, o, none⟩ = some (.int .i64 va.w) := h 0 va rfl 0 _ rfl
 have va1 : w.cell? ⟨gb, o + 1, none⟩ = some (.int .u64 va.lo) := h 0 va rfl 1 _ rfl
 have va2 : w.cell? ⟨gb, o + 2, none⟩ = some (.int .u64 va.hi) := h 0 va rfl 2 _ rfl
 clear h
 obtain ⟨wU, hwU, hbU, hsU, hrU⟩ : ∃ wU, wU = w.alloc (.cells #[.int .i64 0, .int .u64 0, .int .u64 0] 25) ∧ Below w.heap.size w wU ∧ wU.heap.size = w.heap.size + 1 ∧ wU.heap[w.heap.size]? = some (.cells #[.int .i64 0, .int .u64 0, .int .u64 0] 25) := ⟨_, rfl, by go_grown, by simp, heap_alloc_new w _⟩
 have HRB : Hid (wU.heap[w.heap.size]? = some (.cells [.int .i64 0, .int .u64 0, .int .u64 0].toArray 25)) := hrU
 have HWU : Hid _ := hwU
 have hv2 : w.heap.size ≤ wU.heap.size := by omega
 clear hrU hwU hsU
 go_enter Try.func71, Try.ntmps71
 go_wp2_with fail
 rw [← HWU.out]
 refine wp_named fun a0 ha0 => ?_
 have o0 := old_at ha0 (t := 0) rfl
 have o1 := old_at ha0 (t := 1) rfl
 have o2 := old_at ha0 (t := 2) rfl
 have o4 := old_at ha0 (t := 4) rfl
 refine wp_region_lin (S := LS wU w.heap.size 9 [.int .i64 0, .int .u64 0, .int .u64 0] [.int .i64 r.w, .int .u64 r.lo, .int .u64 r.hi] 25) [] (fun _ => 0) (by kernel_rfl) (by kernel_rfl) (by rw [← ha0]; kernel_rfl) (LS.start HRB.out) ?_
 apply LinAll.cons0
 ·intro g L a x hLi haft hS hK; have t0 := (hK.old 0 (by kernel_rfl)).trans o0; (try dsimp only at t0); refine go_in (wanted_all rfl) ?_; intro K hk; clear haft hK hLi; go_simp; exact hk.out g x (fun _ _ => rfl) (hS.go rfl)
 apply LinAll.cons0
 ·intro g L a x hLi haft hS hK; have t6 := hK.nw haft 0 0 6 rfl (by kernel_rfl); (try dsimp only at t6); refine go_in (wanted_all rfl) ?_; intro K hk; clear haft hK hLi; go_simp; exact hk.out g x (fun _ _ => rfl) (hS.go rfl)
 apply LinAll.cons0
 ·intro g L a x hLi haft hS hK; have t7 := hK.nw haft 1 0 7 rfl (by kernel_rfl); (try dsimp only at t7); refine go_in (wanted_all rfl) ?_; intro K hk; have hBx : Below w.heap.size w x := hbU.trans (hS.below (Nat.le_refl _) hv2); have q0 : x.cell? ⟨gb, o, none⟩ = some (.int .i64 va.w) := bel_cell hBx hg va0; have q1 : x.cell? ⟨gb, o + 1, none⟩ = some (.int .u64 va.lo) := bel_cell hBx hg va1; have q2 : x.cell? ⟨gb, o + 2, none⟩ = some (.int .u64 va.hi) := bel_cell hBx hg va2; clear hBx; clear haft hK hLi; go_simp; exact hk.out g x (fun _ _ => rfl) (hS.go rfl)
 apply LinAll.cons0
 ·intro g L a x hLi haft hS hK; have t1 := (hK.old 1 (by kernel_rfl)).trans o1; (try dsimp only at t1); refine go_in (wanted_all rfl) ?_; intro K hk; have hBx : Below w.heap.size w x := hbU.trans (hS.below (Nat.le_refl _) hv2); have qo : x.cell? ⟨bo0, 0, none⟩ = some (.int .i64 p) := bel_cell hBx hbo0 hop0; clear hBx; clear haft hK hLi; go_simp; exact hk.out g x (fun _ _ => rfl) (hS.go rfl)
 apply LinAll.cons0
 ·intro g L a x hLi haft hS hK; have t2 := (hK.old 2 (by kernel_rfl)).trans o2; (try dsimp only at t2); refine go_in (wanted_all rfl) ?_; intro K hk; have hBx : Below w.heap.size w x := hbU.trans (hS.below (Nat.le_refl _) hv2); have qo : x.cell? ⟨bo1, 0, none⟩ = some (.int .i64 op) := bel_cell hBx hbo1 hop1; clear hBx; clear haft hK hLi; go_simp; exact hk.out g x (fun _ _ => rfl) (hS.go rfl)
 apply LinAll.cons0
 ·intro g L a x hLi haft hS hK; have t10 := hK.nw haft 4 0 10 rfl (by kernel_rfl); (try dsimp only at t10); refine go_in (wanted_all rfl) ?_; intro K hk; clear haft hK hLi; go_simp; exact hk.out g x (fun _ _ => rfl) (hS.go rfl)
 apply LinAll.cons0
 ·intro g L a x hLi haft hS hK; have t8 := hK.nw haft 2 3 8 rfl (by kernel_rfl); have t9 := hK.nw haft 3 2 9 rfl (by kernel_rfl); have t11 := hK.nw haft 5 0 11 rfl (by kernel_rfl); (try dsimp only at t8 t9 t11); refine go_in (wanted_all rfl) ?_; intro K hk; clear haft hK hLi; go_simp; refine Calls.mono (HT.out _) ?_; rintro e y ⟨rfl, hb⟩; exact hk.out g y (fun _ _ => rfl) (hS.on hb rfl)
 apply LinAll.cons0
 ·intro g L a x hLi haft hS hK; have t12 := hK.nw haft 6 0 12 rfl (by kernel_rfl); (try dsimp only at t12); refine go_in (wanted_all rfl) ?_; intro K hk; clear haft hK hLi; go_simp; exact hk.out g x (fun _ _ => rfl) (hS.go rfl)
 apply LinAll.cons0
 ·intro g L a x hLi haft hS hK; have t12 := hK.nw haft 6 1 12 rfl (by kernel_rfl); (try dsimp only at t12); refine go_in (wanted_all rfl) ?_; intro K hk; clear haft hK hLi; go_simp; exact hk.out g x (fun _ _ => rfl) (hS.go rfl)
 refine LinAll.cons0 (v := fun _ => undef) ?_ ?_
 ·intro g L a x hLi haft hS hK; have t4 := (hK.old 4 (by kernel_rfl)).trans o4; have t13 := hK.nw haft 7 1 13 rfl (by kernel_rfl); (try dsimp only at t4 t13); refine go_in (wanted_all rfl) ?_; intro K hk; have hr0 := hS.rb; rw [hLi] at hr0; have q0 : x.cell? ⟨w.heap.size, 0, none⟩ = some (.int .i64 0) := cell_of hr0 0 rfl; have q1 : x.cell? ⟨w.heap.size, 1, none⟩ = some (.int .u64 0) := cell_of hr0 1 rfl; have q2 : x.cell? ⟨w.heap.size, 2, none⟩ = some (.int .u64 0) := cell_of hr0 2 rfl; have qf : ∀ j, x.frozen? ⟨w.heap.size, j, none⟩ = false := (fun j => by simp [World.frozen?, hr0]); have hst := hS.st3 hLi; clear hr0; clear haft hK; go_simp; exact hk.out g _ (fun _ _ => rfl) hst
 apply LinAll.cons0
 ·intro g L a x hLi haft hS hK; have t14 := hK.nw haft 8 1 14 rfl (by kernel_rfl); (try dsimp only at t14); refine go_in (wanted_all rfl) ?_; intro K hk; clear haft hK hLi; go_simp; exact hk.out g x (fun _ _ => rfl) (hS.go rfl)
 refine LinAll.nil fun g x hS => ?_
 subst ha0
 simp only [Act.put, List.setIfInBounds_toArray, List.set_cons_zero, List.set_cons_succ]
 clear o0 o1 o2 o4
 have r0 : x.cell? ⟨w.heap.size, 0, none⟩ = some (.int .i64 r.w) := cell_of hS.rb 0 rfl
 have r1 : x.cell? ⟨w.heap.size, 1, none⟩ = some (.int .u64 r.lo) := cell_of hS.rb 1 rfl
 have r2 : x.cell? ⟨w.heap.size, 2, none⟩ = some (.int .u64 r.hi) := cell_of hS.rb 2 rfl
 have hB : Below w.heap.size w x := hbU.trans (hS.below (Nat.le_refl _) hv2)
 clear hS
 go_wp2_with fail
 refine bodyPost_ret (v := .tuple #[.agg #[.int .i64 r.w, .int .u64 r.lo, .int .u64 r.hi], .int .i64 er]) (by simp [results, Try.results71, go_sem, r0, r1, r2]) rfl ?_
 exact ⟨rfl, hB⟩
theorem cl_10 {w : World} {gb o cc bo0 : Nat} {va r : Bt} {er p : Int} (h : Lb w gb o [va]) (hg : gb < w.heap.size) (hop0 : w.cell? ⟨bo0, 0, none⟩ = some (.int .i64 p)) (hbo0 : bo0 < w.heap.size)
  (HT : Hid (∀ wx, Calls Try.prog 74 #[.agg #[.int .i64 va.w, .int .u64 va.lo, .int .u64 va.hi], .int .i64 p] wx fun e w' => e = .returned (.tuple #[.agg #[.int .i64 r.w, .int .u64 r.lo, .int .u64 r.hi], .int .i64 er]) ∧ Below wx.heap.size wx w')) :
  Calls Try.prog 73 #[.slice (some ⟨gb, o, none⟩) 1 cc, .pointer (some ⟨bo0, 0, none⟩)] w fun e w' => e = .returned (.tuple #[.agg #[.int .i64 r.w, .int .u64 r.lo, .int .u64 r.hi], .int .i64 er]) ∧ Below w.heap.size w w' := by
 have va0 : w.cell? ⟨gb, o, none⟩ = some (.int .i64 va.w) := h 0 va rfl 0 _ rfl
 have va1 : w.cell? ⟨gb, o + 1, none⟩ = some (.int .u64 va.lo) := h 0 va rfl 1 _ rfl
 have va2 : w.cell? ⟨gb, o + 2, none⟩ = some (.int .u64 va.hi) := h 0 va rfl 2 _ rfl
 clear h
 obtain ⟨wU, hwU, hbU, hsU, hrU⟩ : ∃ wU, wU = w.alloc (.cells #[.int .i64 0, .int .u64 0, .int .u64 0] 25) ∧ Below w.heap.size w wU ∧ wU.heap.size = w.heap.size + 1 ∧ wU.heap[w.heap.size]? = some (.cells #[.int .i64 0, .int .u64 0, .int .u64 0] 25) := ⟨_, rfl, by go_grown, by simp, heap_alloc_new w _⟩
 have HRB : Hid (wU.heap[w.heap.size]? = some (.cells [.int .i64 0, .int .u64 0, .int .u64 0].toArray 25)) := hrU
 have HWU : Hid _ := hwU
 have hv2 : w.heap.size ≤ wU.heap.size := by omega
 clear hrU hwU hsU
 go_enter Try.func73, Try.ntmps73
 go_wp2_with fail
 rw [← HWU.out]
 refine wp_named fun a0 ha0 => ?_
 have o0 := old_at ha0 (t := 0) rfl
 have o1 := old_at ha0 (t := 1) rfl
 have o3 := old_at ha0 (t := 3) rfl
 refine wp_region_lin (S := LS wU w.heap.size 7 [.int .i64 0, .int .u64 0, .int .u64 0] [.int .i64 r.w, .int .u64 r.lo, .int .u64 r.hi] 25) [] (fun _ => 0) (by kernel_rfl) (by kernel_rfl) (by rw [← ha0]; kernel_rfl) (LS.start HRB.out) ?_
 apply LinAll.cons0
 ·intro g L a x hLi haft hS hK; have t0 := (hK.old 0 (by kernel_rfl)).trans o0; (try dsimp only at t0); refine go_in (wanted_all rfl) ?_; intro K hk; clear haft hK hLi; go_simp; exact hk.out g x (fun _ _ => rfl) (hS.go rfl)
 apply LinAll.cons0
 ·intro g L a x hLi haft hS hK; have t5 := hK.nw haft 0 0 5 rfl (by kernel_rfl); (try dsimp only at t5); refine go_in (wanted_all rfl) ?_; intro K hk; clear haft hK hLi; go_simp; exact hk.out g x (fun _ _ => rfl) (hS.go rfl)
 apply LinAll.cons0
 ·intro g L a x hLi haft hS hK; have t6 := hK.nw haft 1 0 6 rfl (by kernel_rfl); (try dsimp only at t6); refine go_in (wanted_all rfl) ?_; intro K hk; have hBx : Below w.heap.size w x := hbU.trans (hS.below (Nat.le_refl _) hv2); have q0 : x.cell? ⟨gb, o, none⟩ = some (.int .i64 va.w) := bel_cell hBx hg va0; have q1 : x.cell? ⟨gb, o + 1, none⟩ = some (.int .u64 va.lo) := bel_cell hBx hg va1; have q2 : x.cell? ⟨gb, o + 2, none⟩ = some (.int .u64 va.hi) := bel_cell hBx hg va2; clear hBx; clear haft hK hLi; go_simp; exact hk.out g x (fun _ _ => rfl) (hS.go rfl)
 apply LinAll.cons0
 ·intro g L a x hLi haft hS hK; have t1 := (hK.old 1 (by kernel_rfl)).trans o1; (try dsimp only at t1); refine go_in (wanted_all rfl) ?_; intro K hk; have hBx : Below w.heap.size w x := hbU.trans (hS.below (Nat.le_refl _) hv2); have qo : x.cell? ⟨bo0, 0, none⟩ = some (.int .i64 p) := bel_cell hBx hbo0 hop0; clear hBx; clear haft hK hLi; go_simp; exact hk.out g x (fun _ _ => rfl) (hS.go rfl)
 apply LinAll.cons0
 ·intro g L a x hLi haft hS hK; have t7 := hK.nw haft 2 1 7 rfl (by kernel_rfl); have t8 := hK.nw haft 3 0 8 rfl (by kernel_rfl); (try dsimp only at t7 t8); refine go_in (wanted_all rfl) ?_; intro K hk; clear haft hK hLi; go_simp; refine Calls.mono (HT.out _) ?_; rintro e y ⟨rfl, hb⟩; exact hk.out g y (fun _ _ => rfl) (hS.on hb rfl)
 apply LinAll.cons0
 ·intro g L a x hLi haft hS hK; have t9 := hK.nw haft 4 0 9 rfl (by kernel_rfl); (try dsimp only at t9); refine go_in (wanted_all rfl) ?_; intro K hk; clear haft hK hLi; go_simp; exact hk.out g x (fun _ _ => rfl) (hS.go rfl)
 apply LinAll.cons0
 ·intro g L a x hLi haft hS hK; have t9 := hK.nw haft 4 1 9 rfl (by kernel_rfl); (try dsimp only at t9); refine go_in (wanted_all rfl) ?_; intro K hk; clear haft hK hLi; go_simp; exact hk.out g x (fun _ _ => rfl) (hS.go rfl)
 refine LinAll.cons0 (v := fun _ => undef) ?_ ?_
 ·intro g L a x hLi haft hS hK; have t3 := (hK.old 3 (by kernel_rfl)).trans o3; have t10 := hK.nw haft 5 1 10 rfl (by kernel_rfl); (try dsimp only at t3 t10); refine go_in (wanted_all rfl) ?_; intro K hk; have hr0 := hS.rb; rw [hLi] at hr0; have q0 : x.cell? ⟨w.heap.size, 0, none⟩ = some (.int .i64 0) := cell_of hr0 0 rfl; have q1 : x.cell? ⟨w.heap.size, 1, none⟩ = some (.int .u64 0) := cell_of hr0 1 rfl; have q2 : x.cell? ⟨w.heap.size, 2, none⟩ = some (.int .u64 0) := cell_of hr0 2 rfl; have qf : ∀ j, x.frozen? ⟨w.heap.size, j, none⟩ = false := (fun j => by simp [World.frozen?, hr0]); have hst := hS.st3 hLi; clear hr0; clear haft hK; go_simp; exact hk.out g _ (fun _ _ => rfl) hst
 apply LinAll.cons0
 ·intro g L a x hLi haft hS hK; have t11 := hK.nw haft 6 1 11 rfl (by kernel_rfl); (try dsimp only at t11); refine go_in (wanted_all rfl) ?_; intro K hk; clear haft hK hLi; go_simp; exact hk.out g x (fun _ _ => rfl) (hS.go rfl)
 refine LinAll.nil fun g x hS => ?_
 subst ha0
 simp only [Act.put, List.setIfInBounds_toArray, List.set_cons_zero, List.set_cons_succ]
 clear o0 o1 o3
 have r0 : x.cell? ⟨w.heap.size, 0, none⟩ = some (.int .i64 r.w) := cell_of hS.rb 0 rfl
 have r1 : x.cell? ⟨w.heap.size, 1, none⟩ = some (.int .u64 r.lo) := cell_of hS.rb 1 rfl
 have r2 : x.cell? ⟨w.heap.size, 2, none⟩ = some (.int .u64 r.hi) := cell_of hS.rb 2 rfl
 have hB : Below w.heap.size w x := hbU.trans (hS.below (Nat.le_refl _) hv2)
 clear hS
 go_wp2_with fail
 refine bodyPost_ret (v := .tuple #[.agg #[.int .i64 r.w, .int .u64 r.lo, .int .u64 r.hi], .int .i64 er]) (by simp [results, Try.results73, go_sem, r0, r1, r2]) rfl ?_
 exact ⟨rfl, hB⟩
end Go.Proofs.Ytedldoobmmhloaa
