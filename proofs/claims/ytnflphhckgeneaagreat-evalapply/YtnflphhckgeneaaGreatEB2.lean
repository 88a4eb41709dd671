/- Contracts (the document): what operators mean: two words, two values alike. (Made by a script.) -/
import Derived.Test.YtnflphhckgeneaaGreatEA11
namespace Go.Proofs.YtnflphhckgeneaaGreat
set_option maxHeartbeats 12800000
set_option maxRecDepth 100000
open Go.RowKit
set_option linter.unusedSimpArgs false
set_option linter.unusedVariables false
theorem neq2 (a b : Bt) (w : World) : (binOp .neq 34 (.agg #[.int .i64 a.w, .int .u64 a.lo, .int .u64 a.hi]) (.agg #[.int .i64 b.w, .int .u64 b.lo, .int .u64 b.hi])).run Tryz.prog w = .ok (.bool (!eqT a b)) w := by
  unfold eqT
  by_cases h1 : a.w = b.w
  · by_cases h2 : a.lo = b.lo
    · by_cases h3 : a.hi = b.hi <;> simp [go_sem, h1, h2, h3]
    · simp [go_sem, h1, h2]
  · simp [go_sem, h1]

theorem dm_38 {w : World} {gb o cc : Nat} {va vb r : Bt} {p q er : Int} (h : Lb w gb o [va, vb]) (hg : gb < w.heap.size)
    (HT : Hid (∀ wx, Rt 54 #[.agg #[.int .i64 va.w, .int .u64 va.lo, .int .u64 va.hi], .agg #[.int .i64 vb.w, .int .u64 vb.lo, .int .u64 vb.hi]] wx (.tuple #[.agg #[.int .i64 r.w, .int .u64 r.lo, .int .u64 r.hi], .int .i64 er]))) :
    Rt 31 #[.int .i64 38, .int .i64 p, .int .i64 q, .slice (some ⟨gb, o, none⟩) 2 cc] w (.agg #[.int .i64 r.w, .int .u64 r.lo, .int .u64 r.hi]) := by
  have va0 : w.cell? ⟨gb, o, none⟩ = some (.int .i64 va.w) := h 0 va rfl 0 _ rfl
  have va1 : w.cell? ⟨gb, o + 1, none⟩ = some (.int .u64 va.lo) := h 0 va rfl 1 _ rfl
  have va2 : w.cell? ⟨gb, o + 2, none⟩ = some (.int .u64 va.hi) := h 0 va rfl 2 _ rfl
  have vb0 : w.cell? ⟨gb, o + 3, none⟩ = some (.int .i64 vb.w) := h 1 vb rfl 0 _ rfl
  have vb1 : w.cell? ⟨gb, o + 4, none⟩ = some (.int .u64 vb.lo) := h 1 vb rfl 1 _ rfl
  have vb2 : w.cell? ⟨gb, o + 5, none⟩ = some (.int .u64 vb.hi) := h 1 vb rfl 2 _ rfl
  clear h
  obtain ⟨wU, hwU⟩ : ∃ wU, wU = (w.alloc (.cells #[.int .i64 0, .int .u64 0, .int .u64 0] 34)).alloc (.cells #[.int .i64 0, .int .u64 0, .int .u64 0] 34) := ⟨_, rfl⟩
  have hbU : Below w.heap.size w wU := by rw [hwU]; go_grown
  have hsU : wU.heap.size = w.heap.size + 2 := by rw [hwU]; simp
  have hrU : wU.heap[w.heap.size + 1]? = some (.cells #[.int .i64 0, .int .u64 0, .int .u64 0] 34) := by rw [hwU]; have hn := heap_alloc_new (w.alloc (.cells #[.int .i64 0, .int .u64 0, .int .u64 0] 34)) (.cells #[.int .i64 0, .int .u64 0, .int .u64 0] 34); rw [size_alloc'] at hn; exact hn
  have h8 : wU.heap[w.heap.size]? = some (.cells #[.int .i64 0, .int .u64 0, .int .u64 0] 34) := by rw [hwU]; exact (heap_alloc_old _ _ (by simp)).trans (heap_alloc_new w _)
  have H8 : Hid _ := h8
  have HRB : Hid (wU.heap[w.heap.size + 1]? = some (.cells [.int .i64 0, .int .u64 0, .int .u64 0].toArray 34)) := hrU
  have HWU : Hid _ := hwU
  have hv2 : w.heap.size ≤ wU.heap.size := by omega
  clear hrU hwU h8
  go_enter Tryz.func31, Tryz.ntmps31
  go_wp2_with fail
  rw [← HWU.out]
  refine wp_named fun a0 ha0 => ?_
  have o3 := old_at ha0 (t := 3) rfl
  have o9 := old_at ha0 (t := 9) rfl
  refine wp_region_lin (S := LS wU (w.heap.size + 1) 10 [.int .i64 0, .int .u64 0, .int .u64 0] [.int .i64 r.w, .int .u64 r.lo, .int .u64 r.hi] 34) [] (fun _ => 0) (by kernel_rfl) (by kernel_rfl) (by rw [← ha0]; kernel_rfl) (LS.start HRB.out) ?_
  apply LinAll.cons0
  · intro g L a x hLi haft hS hK; have t3 := (hK.old 3 (by kernel_rfl)).trans o3; (try dsimp only at t3); refine go_in (wanted_all rfl) ?_; intro K hk; clear haft hK hLi; go_simp; exact hk.out g x (fun _ _ => rfl) (hS.go rfl)
  apply LinAll.cons0
  · intro g L a x hLi haft hS hK; have t117 := hK.nw haft 0 0 117 rfl (by kernel_rfl); (try dsimp only at t117); refine go_in (wanted_all rfl) ?_; intro K hk; clear haft hK hLi; go_simp; exact hk.out g x (fun _ _ => rfl) (hS.go rfl)
  apply LinAll.cons0
  · intro g L a x hLi haft hS hK; have t118 := hK.nw haft 1 0 118 rfl (by kernel_rfl); (try dsimp only at t118); refine go_in (wanted_all rfl) ?_; intro K hk; have hBx : Below w.heap.size w x := hbU.trans (hS.below (by omega) hv2); have qva0 : x.cell? ⟨gb, o, none⟩ = some (.int .i64 va.w) := bel_cell hBx hg va0; have qva1 : x.cell? ⟨gb, o + 1, none⟩ = some (.int .u64 va.lo) := bel_cell hBx hg va1; have qva2 : x.cell? ⟨gb, o + 2, none⟩ = some (.int .u64 va.hi) := bel_cell hBx hg va2; clear hBx; clear haft hK hLi; go_simp; exact hk.out g x (fun _ _ => rfl) (hS.go rfl)
  apply LinAll.cons0
  · intro g L a x hLi haft hS hK; have t3 := (hK.old 3 (by kernel_rfl)).trans o3; (try dsimp only at t3); refine go_in (wanted_all rfl) ?_; intro K hk; clear haft hK hLi; go_simp; exact hk.out g x (fun _ _ => rfl) (hS.go rfl)
  apply LinAll.cons0
  · intro g L a x hLi haft hS hK; have t120 := hK.nw haft 3 0 120 rfl (by kernel_rfl); (try dsimp only at t120); refine go_in (wanted_all rfl) ?_; intro K hk; clear haft hK hLi; go_simp; exact hk.out g x (fun _ _ => rfl) (hS.go rfl)
  apply LinAll.cons0
  · intro g L a x hLi haft hS hK; have t121 := hK.nw haft 4 0 121 rfl (by kernel_rfl); (try dsimp only at t121); refine go_in (wanted_all rfl) ?_; intro K hk; have hBx : Below w.heap.size w x := hbU.trans (hS.below (by omega) hv2); have qvb0 : x.cell? ⟨gb, o + 3, none⟩ = some (.int .i64 vb.w) := bel_cell hBx hg vb0; have qvb1 : x.cell? ⟨gb, o + 4, none⟩ = some (.int .u64 vb.lo) := bel_cell hBx hg vb1; have qvb2 : x.cell? ⟨gb, o + 5, none⟩ = some (.int .u64 vb.hi) := bel_cell hBx hg vb2; clear hBx; clear haft hK hLi; go_simp; exact hk.out g x (fun _ _ => rfl) (hS.go rfl)
  apply LinAll.cons0
  · intro g L a x hLi haft hS hK; have t119 := hK.nw haft 2 3 119 rfl (by kernel_rfl); have t122 := hK.nw haft 5 0 122 rfl (by kernel_rfl); (try dsimp only at t119 t122); refine go_in (wanted_all rfl) ?_; intro K hk; clear haft hK hLi; go_simp; refine Calls.mono (HT.out _) ?_; rintro e y ⟨rfl, hb⟩; exact hk.out g y (fun _ _ => rfl) (hS.on hb rfl)
  apply LinAll.cons0
  · intro g L a x hLi haft hS hK; have t123 := hK.nw haft 6 0 123 rfl (by kernel_rfl); (try dsimp only at t123); refine go_in (wanted_all rfl) ?_; intro K hk; clear haft hK hLi; go_simp; exact hk.out g x (fun _ _ => rfl) (hS.go rfl)
  apply LinAll.cons0
  · intro g L a x hLi haft hS hK; have t116 := hK.nw haft 7 0 116 rfl (by kernel_rfl); (try dsimp only at t116); refine go_in (wanted_all rfl) ?_; intro K hk; clear haft hK hLi; go_simp; exact hk.out g x (fun _ _ => rfl) (hS.go rfl)
  apply LinAll.cons0
  · intro g L a x hLi haft hS hK; have t116 := hK.nw haft 7 1 116 rfl (by kernel_rfl); (try dsimp only at t116); refine go_in (wanted_all rfl) ?_; intro K hk; clear haft hK hLi; go_simp; exact hk.out g x (fun _ _ => rfl) (hS.go rfl)
  refine LinAll.cons0 (v := fun _ => undef) ?_ ?_
  · intro g L a x hLi haft hS hK; have t9 := (hK.old 9 (by kernel_rfl)).trans o9; have t124 := hK.nw haft 8 1 124 rfl (by kernel_rfl); (try dsimp only at t9 t124); refine go_in (wanted_all rfl) ?_; intro K hk; have hr0 := hS.rb; rw [hLi] at hr0; have q0 : x.cell? ⟨w.heap.size + 1, 0, none⟩ = some (.int .i64 0) := cell_of hr0 0 rfl; have q1 : x.cell? ⟨w.heap.size + 1, 1, none⟩ = some (.int .u64 0) := cell_of hr0 1 rfl; have q2 : x.cell? ⟨w.heap.size + 1, 2, none⟩ = some (.int .u64 0) := cell_of hr0 2 rfl; have qf : ∀ j, x.frozen? ⟨w.heap.size + 1, j, none⟩ = false := (fun j => by simp [World.frozen?, hr0]); have hst := hS.st3 hLi; clear hr0; clear haft hK; go_simp; exact hk.out g _ (fun _ _ => rfl) hst
  refine LinAll.nil fun g x hS => ?_
  subst ha0
  simp only [Act.put, List.setIfInBounds_toArray, List.set_cons_zero, List.set_cons_succ]
  clear o3 o9
  have h8x : x.heap[w.heap.size]? = some (.cells #[.int .i64 0, .int .u64 0, .int .u64 0] 34) := (hS.kp _ (by omega) (by omega)).trans H8.out
  have r0 : x.cell? ⟨w.heap.size, 0, none⟩ = some (.int .i64 0) := cell_of h8x 0 rfl
  have r1 : x.cell? ⟨w.heap.size, 1, none⟩ = some (.int .u64 0) := cell_of h8x 1 rfl
  have r2 : x.cell? ⟨w.heap.size, 2, none⟩ = some (.int .u64 0) := cell_of h8x 2 rfl
  have rf : ∀ j, x.frozen? ⟨w.heap.size, j, none⟩ = false := fun j => by simp [World.frozen?, h8x]
  have s0 : x.cell? ⟨w.heap.size + 1, 0, none⟩ = some (.int .i64 r.w) := cell_of hS.rb 0 rfl
  have s1 : x.cell? ⟨w.heap.size + 1, 1, none⟩ = some (.int .u64 r.lo) := cell_of hS.rb 1 rfl
  have s2 : x.cell? ⟨w.heap.size + 1, 2, none⟩ = some (.int .u64 r.hi) := cell_of hS.rb 2 rfl
  have hsx : w.heap.size + 1 < x.heap.size := by have := hS.sz; omega
  have hB : Below w.heap.size w x := hbU.trans (hS.below (by omega) hv2)
  clear hS h8x
  go_wp2_with fail
  refine bodyPost_ret (v := .agg #[.int .i64 r.w, .int .u64 r.lo, .int .u64 r.hi]) (by simp [results, Tryz.results31, go_sem, r0, r1, r2, s0, s1, s2, hsx]) rfl ?_
  exact ⟨rfl, by go_grown⟩

theorem dm_two {w : World} {gb o cc : Nat} {va vb r : Bt} {op p q er : Int} (h1 : 12 ≤ op) (h2 : op ≤ 37) (h : Lb w gb o [va, vb]) (hg : gb < w.heap.size)
    (HT : Hid (∀ wx, Rt 59 #[.int .i64 op, .agg #[.int .i64 va.w, .int .u64 va.lo, .int .u64 va.hi], .agg #[.int .i64 vb.w, .int .u64 vb.lo, .int .u64 vb.hi]] wx (.tuple #[.agg #[.int .i64 r.w, .int .u64 r.lo, .int .u64 r.hi], .int .i64 er]))) :
    Rt 31 #[.int .i64 op, .int .i64 p, .int .i64 q, .slice (some ⟨gb, o, none⟩) 2 cc] w (.agg #[.int .i64 r.w, .int .u64 r.lo, .int .u64 r.hi]) := by
  have va0 : w.cell? ⟨gb, o, none⟩ = some (.int .i64 va.w) := h 0 va rfl 0 _ rfl
  have va1 : w.cell? ⟨gb, o + 1, none⟩ = some (.int .u64 va.lo) := h 0 va rfl 1 _ rfl
  have va2 : w.cell? ⟨gb, o + 2, none⟩ = some (.int .u64 va.hi) := h 0 va rfl 2 _ rfl
  have vb0 : w.cell? ⟨gb, o + 3, none⟩ = some (.int .i64 vb.w) := h 1 vb rfl 0 _ rfl
  have vb1 : w.cell? ⟨gb, o + 4, none⟩ = some (.int .u64 vb.lo) := h 1 vb rfl 1 _ rfl
  have vb2 : w.cell? ⟨gb, o + 5, none⟩ = some (.int .u64 vb.hi) := h 1 vb rfl 2 _ rfl
  have z3 : (op == 3) = false := by simp; omega
  have z4 : (op == 4) = false := by simp; omega
  have z5 : (op == 5) = false := by simp; omega
  have z6 : (op == 6) = false := by simp; omega
  have z7 : (op == 7) = false := by simp; omega
  have z8 : (op == 8) = false := by simp; omega
  have z9 : (op == 9) = false := by simp; omega
  have z10 : (op == 10) = false := by simp; omega
  have z11 : (op == 11) = false := by simp; omega
  have z38 : (op == 38) = false := by simp; omega
  have z39 : (op == 39) = false := by simp; omega
  have z40 : (op == 40) = false := by simp; omega
  have z41 : (op == 41) = false := by simp; omega
  have z42 : (op == 42) = false := by simp; omega
  have z43 : (op == 43) = false := by simp; omega
  have z44 : (op == 44) = false := by simp; omega
  clear h1 h2
  clear h
  obtain ⟨wU, hwU⟩ : ∃ wU, wU = (w.alloc (.cells #[.int .i64 0, .int .u64 0, .int .u64 0] 34)).alloc (.cells #[.int .i64 0, .int .u64 0, .int .u64 0] 34) := ⟨_, rfl⟩
  have hbU : Below w.heap.size w wU := by rw [hwU]; go_grown
  have hsU : wU.heap.size = w.heap.size + 2 := by rw [hwU]; simp
  have hrU : wU.heap[w.heap.size + 1]? = some (.cells #[.int .i64 0, .int .u64 0, .int .u64 0] 34) := by rw [hwU]; have hn := heap_alloc_new (w.alloc (.cells #[.int .i64 0, .int .u64 0, .int .u64 0] 34)) (.cells #[.int .i64 0, .int .u64 0, .int .u64 0] 34); rw [size_alloc'] at hn; exact hn
  have h8 : wU.heap[w.heap.size]? = some (.cells #[.int .i64 0, .int .u64 0, .int .u64 0] 34) := by rw [hwU]; exact (heap_alloc_old _ _ (by simp)).trans (heap_alloc_new w _)
  have H8 : Hid _ := h8
  have HRB : Hid (wU.heap[w.heap.size + 1]? = some (.cells [.int .i64 0, .int .u64 0, .int .u64 0].toArray 34)) := hrU
  have HWU : Hid _ := hwU
  have hv2 : w.heap.size ≤ wU.heap.size := by omega
  clear hrU hwU h8
  go_enter Tryz.func31, Tryz.ntmps31
  go_wp2_with fail
  rw [← HWU.out]
  refine wp_named fun a0 ha0 => ?_
  have o0 := old_at ha0 (t := 0) rfl
  have o3 := old_at ha0 (t := 3) rfl
  have o9 := old_at ha0 (t := 9) rfl
  refine wp_region_lin (S := LS wU (w.heap.size + 1) 11 [.int .i64 0, .int .u64 0, .int .u64 0] [.int .i64 r.w, .int .u64 r.lo, .int .u64 r.hi] 34) [] (fun _ => 0) (by kernel_rfl) (by kernel_rfl) (by rw [← ha0]; kernel_rfl) (LS.start HRB.out) ?_
  apply LinAll.cons0
  · intro g L a x hLi haft hS hK; have t0 := (hK.old 0 (by kernel_rfl)).trans o0; (try dsimp only at t0); refine go_in (wanted_all rfl) ?_; intro K hk; clear haft hK hLi; go_simp; exact hk.out g x (fun _ _ => rfl) (hS.go rfl)
  apply LinAll.cons0
  · intro g L a x hLi haft hS hK; have t3 := (hK.old 3 (by kernel_rfl)).trans o3; (try dsimp only at t3); refine go_in (wanted_all rfl) ?_; intro K hk; clear haft hK hLi; go_simp; exact hk.out g x (fun _ _ => rfl) (hS.go rfl)
  apply LinAll.cons0
  · intro g L a x hLi haft hS hK; have t94 := hK.nw haft 1 0 94 rfl (by kernel_rfl); (try dsimp only at t94); refine go_in (wanted_all rfl) ?_; intro K hk; clear haft hK hLi; go_simp; exact hk.out g x (fun _ _ => rfl) (hS.go rfl)
  apply LinAll.cons0
  · intro g L a x hLi haft hS hK; have t95 := hK.nw haft 2 0 95 rfl (by kernel_rfl); (try dsimp only at t95); refine go_in (wanted_all rfl) ?_; intro K hk; have hBx : Below w.heap.size w x := hbU.trans (hS.below (by omega) hv2); have qva0 : x.cell? ⟨gb, o, none⟩ = some (.int .i64 va.w) := bel_cell hBx hg va0; have qva1 : x.cell? ⟨gb, o + 1, none⟩ = some (.int .u64 va.lo) := bel_cell hBx hg va1; have qva2 : x.cell? ⟨gb, o + 2, none⟩ = some (.int .u64 va.hi) := bel_cell hBx hg va2; clear hBx; clear haft hK hLi; go_simp; exact hk.out g x (fun _ _ => rfl) (hS.go rfl)
  apply LinAll.cons0
  · intro g L a x hLi haft hS hK; have t3 := (hK.old 3 (by kernel_rfl)).trans o3; (try dsimp only at t3); refine go_in (wanted_all rfl) ?_; intro K hk; clear haft hK hLi; go_simp; exact hk.out g x (fun _ _ => rfl) (hS.go rfl)
  apply LinAll.cons0
  · intro g L a x hLi haft hS hK; have t97 := hK.nw haft 4 0 97 rfl (by kernel_rfl); (try dsimp only at t97); refine go_in (wanted_all rfl) ?_; intro K hk; clear haft hK hLi; go_simp; exact hk.out g x (fun _ _ => rfl) (hS.go rfl)
  apply LinAll.cons0
  · intro g L a x hLi haft hS hK; have t98 := hK.nw haft 5 0 98 rfl (by kernel_rfl); (try dsimp only at t98); refine go_in (wanted_all rfl) ?_; intro K hk; have hBx : Below w.heap.size w x := hbU.trans (hS.below (by omega) hv2); have qvb0 : x.cell? ⟨gb, o + 3, none⟩ = some (.int .i64 vb.w) := bel_cell hBx hg vb0; have qvb1 : x.cell? ⟨gb, o + 4, none⟩ = some (.int .u64 vb.lo) := bel_cell hBx hg vb1; have qvb2 : x.cell? ⟨gb, o + 5, none⟩ = some (.int .u64 vb.hi) := bel_cell hBx hg vb2; clear hBx; clear haft hK hLi; go_simp; exact hk.out g x (fun _ _ => rfl) (hS.go rfl)
  apply LinAll.cons0
  · intro g L a x hLi haft hS hK; have t93 := hK.nw haft 0 6 93 rfl (by kernel_rfl); have t96 := hK.nw haft 3 3 96 rfl (by kernel_rfl); have t99 := hK.nw haft 6 0 99 rfl (by kernel_rfl); (try dsimp only at t93 t96 t99); refine go_in (wanted_all rfl) ?_; intro K hk; clear haft hK hLi; go_simp; refine Calls.mono (HT.out _) ?_; rintro e y ⟨rfl, hb⟩; exact hk.out g y (fun _ _ => rfl) (hS.on hb rfl)
  apply LinAll.cons0
  · intro g L a x hLi haft hS hK; have t100 := hK.nw haft 7 0 100 rfl (by kernel_rfl); (try dsimp only at t100); refine go_in (wanted_all rfl) ?_; intro K hk; clear haft hK hLi; go_simp; exact hk.out g x (fun _ _ => rfl) (hS.go rfl)
  apply LinAll.cons0
  · intro g L a x hLi haft hS hK; have t92 := hK.nw haft 8 0 92 rfl (by kernel_rfl); (try dsimp only at t92); refine go_in (wanted_all rfl) ?_; intro K hk; clear haft hK hLi; go_simp; exact hk.out g x (fun _ _ => rfl) (hS.go rfl)
  apply LinAll.cons0
  · intro g L a x hLi haft hS hK; have t92 := hK.nw haft 8 1 92 rfl (by kernel_rfl); (try dsimp only at t92); refine go_in (wanted_all rfl) ?_; intro K hk; clear haft hK hLi; go_simp; exact hk.out g x (fun _ _ => rfl) (hS.go rfl)
  refine LinAll.cons0 (v := fun _ => undef) ?_ ?_
  · intro g L a x hLi haft hS hK; have t9 := (hK.old 9 (by kernel_rfl)).trans o9; have t101 := hK.nw haft 9 1 101 rfl (by kernel_rfl); (try dsimp only at t9 t101); refine go_in (wanted_all rfl) ?_; intro K hk; have hr0 := hS.rb; rw [hLi] at hr0; have q0 : x.cell? ⟨w.heap.size + 1, 0, none⟩ = some (.int .i64 0) := cell_of hr0 0 rfl; have q1 : x.cell? ⟨w.heap.size + 1, 1, none⟩ = some (.int .u64 0) := cell_of hr0 1 rfl; have q2 : x.cell? ⟨w.heap.size + 1, 2, none⟩ = some (.int .u64 0) := cell_of hr0 2 rfl; have qf : ∀ j, x.frozen? ⟨w.heap.size + 1, j, none⟩ = false := (fun j => by simp [World.frozen?, hr0]); have hst := hS.st3 hLi; clear hr0; clear haft hK; go_simp; exact hk.out g _ (fun _ _ => rfl) hst
  refine LinAll.nil fun g x hS => ?_
  subst ha0
  simp only [Act.put, List.setIfInBounds_toArray, List.set_cons_zero, List.set_cons_succ]
  clear o0 o3 o9
  have h8x : x.heap[w.heap.size]? = some (.cells #[.int .i64 0, .int .u64 0, .int .u64 0] 34) := (hS.kp _ (by omega) (by omega)).trans H8.out
  have r0 : x.cell? ⟨w.heap.size, 0, none⟩ = some (.int .i64 0) := cell_of h8x 0 rfl
  have r1 : x.cell? ⟨w.heap.size, 1, none⟩ = some (.int .u64 0) := cell_of h8x 1 rfl
  have r2 : x.cell? ⟨w.heap.size, 2, none⟩ = some (.int .u64 0) := cell_of h8x 2 rfl
  have rf : ∀ j, x.frozen? ⟨w.heap.size, j, none⟩ = false := fun j => by simp [World.frozen?, h8x]
  have s0 : x.cell? ⟨w.heap.size + 1, 0, none⟩ = some (.int .i64 r.w) := cell_of hS.rb 0 rfl
  have s1 : x.cell? ⟨w.heap.size + 1, 1, none⟩ = some (.int .u64 r.lo) := cell_of hS.rb 1 rfl
  have s2 : x.cell? ⟨w.heap.size + 1, 2, none⟩ = some (.int .u64 r.hi) := cell_of hS.rb 2 rfl
  have hsx : w.heap.size + 1 < x.heap.size := by have := hS.sz; omega
  have hB : Below w.heap.size w x := hbU.trans (hS.below (by omega) hv2)
  clear hS h8x
  go_wp2_with fail
  refine bodyPost_ret (v := .agg #[.int .i64 r.w, .int .u64 r.lo, .int .u64 r.hi]) (by simp [results, Tryz.results31, go_sem, r0, r1, r2, s0, s1, s2, hsx]) rfl ?_
  exact ⟨rfl, by go_grown⟩

theorem dm_6 {w : World} {gb o cc : Nat} {va vb r : Bt} {p q : Int} (h : Lb w gb o [va, vb]) (hg : gb < w.heap.size)
    (HT : Hid (∀ wx, Rt 51 #[.bool (!eqT va vb)] wx (.agg #[.int .i64 r.w, .int .u64 r.lo, .int .u64 r.hi]))) :
    Rt 31 #[.int .i64 6, .int .i64 p, .int .i64 q, .slice (some ⟨gb, o, none⟩) 2 cc] w (.agg #[.int .i64 r.w, .int .u64 r.lo, .int .u64 r.hi]) := by
  have va0 : w.cell? ⟨gb, o, none⟩ = some (.int .i64 va.w) := h 0 va rfl 0 _ rfl
  have va1 : w.cell? ⟨gb, o + 1, none⟩ = some (.int .u64 va.lo) := h 0 va rfl 1 _ rfl
  have va2 : w.cell? ⟨gb, o + 2, none⟩ = some (.int .u64 va.hi) := h 0 va rfl 2 _ rfl
  have vb0 : w.cell? ⟨gb, o + 3, none⟩ = some (.int .i64 vb.w) := h 1 vb rfl 0 _ rfl
  have vb1 : w.cell? ⟨gb, o + 4, none⟩ = some (.int .u64 vb.lo) := h 1 vb rfl 1 _ rfl
  have vb2 : w.cell? ⟨gb, o + 5, none⟩ = some (.int .u64 vb.hi) := h 1 vb rfl 2 _ rfl
  clear h
  have heq := neq2 va vb
  obtain ⟨y, hy⟩ : ∃ y, y = (!eqT va vb) := ⟨_, rfl⟩
  rw [← hy] at heq HT
  clear hy
  obtain ⟨wU, hwU⟩ : ∃ wU, wU = w.alloc (.cells #[.int .i64 0, .int .u64 0, .int .u64 0] 34) := ⟨_, rfl⟩
  have hbU : Below w.heap.size w wU := by rw [hwU]; go_grown
  have hsU : wU.heap.size = w.heap.size + 1 := by rw [hwU]; simp
  have hrU : wU.heap[w.heap.size]? = some (.cells #[.int .i64 0, .int .u64 0, .int .u64 0] 34) := by rw [hwU]; exact heap_alloc_new w _
  have HRB : Hid (wU.heap[w.heap.size]? = some (.cells [.int .i64 0, .int .u64 0, .int .u64 0].toArray 34)) := hrU
  have HWU : Hid _ := hwU
  have hv2 : w.heap.size ≤ wU.heap.size := by omega
  clear hrU hwU
  go_enter Tryz.func31, Tryz.ntmps31
  go_wp2_with fail
  rw [← HWU.out]
  refine wp_named fun a0 ha0 => ?_
  have o3 := old_at ha0 (t := 3) rfl
  have o8 := old_at ha0 (t := 8) rfl
  refine wp_region_lin (S := LS wU (w.heap.size) 8 [.int .i64 0, .int .u64 0, .int .u64 0] [.int .i64 r.w, .int .u64 r.lo, .int .u64 r.hi] 34) [] (fun _ => 0) (by kernel_rfl) (by kernel_rfl) (by rw [← ha0]; kernel_rfl) (LS.start HRB.out) ?_
  apply LinAll.cons0
  · intro g L a x hLi haft hS hK; have t3 := (hK.old 3 (by kernel_rfl)).trans o3; (try dsimp only at t3); refine go_in (wanted_all rfl) ?_; intro K hk; clear haft hK hLi; go_simp; exact hk.out g x (fun _ _ => rfl) (hS.go rfl)
  apply LinAll.cons0
  · intro g L a x hLi haft hS hK; have t47 := hK.nw haft 0 0 47 rfl (by kernel_rfl); (try dsimp only at t47); refine go_in (wanted_all rfl) ?_; intro K hk; clear haft hK hLi; go_simp; exact hk.out g x (fun _ _ => rfl) (hS.go rfl)
  apply LinAll.cons0
  · intro g L a x hLi haft hS hK; have t48 := hK.nw haft 1 0 48 rfl (by kernel_rfl); (try dsimp only at t48); refine go_in (wanted_all rfl) ?_; intro K hk; have hBx : Below w.heap.size w x := hbU.trans (hS.below (Nat.le_refl _) hv2); have qva0 : x.cell? ⟨gb, o, none⟩ = some (.int .i64 va.w) := bel_cell hBx hg va0; have qva1 : x.cell? ⟨gb, o + 1, none⟩ = some (.int .u64 va.lo) := bel_cell hBx hg va1; have qva2 : x.cell? ⟨gb, o + 2, none⟩ = some (.int .u64 va.hi) := bel_cell hBx hg va2; clear hBx; clear haft hK hLi; go_simp; exact hk.out g x (fun _ _ => rfl) (hS.go rfl)
  apply LinAll.cons0
  · intro g L a x hLi haft hS hK; have t3 := (hK.old 3 (by kernel_rfl)).trans o3; (try dsimp only at t3); refine go_in (wanted_all rfl) ?_; intro K hk; clear haft hK hLi; go_simp; exact hk.out g x (fun _ _ => rfl) (hS.go rfl)
  apply LinAll.cons0
  · intro g L a x hLi haft hS hK; have t50 := hK.nw haft 3 0 50 rfl (by kernel_rfl); (try dsimp only at t50); refine go_in (wanted_all rfl) ?_; intro K hk; clear haft hK hLi; go_simp; exact hk.out g x (fun _ _ => rfl) (hS.go rfl)
  apply LinAll.cons0
  · intro g L a x hLi haft hS hK; have t51 := hK.nw haft 4 0 51 rfl (by kernel_rfl); (try dsimp only at t51); refine go_in (wanted_all rfl) ?_; intro K hk; have hBx : Below w.heap.size w x := hbU.trans (hS.below (Nat.le_refl _) hv2); have qvb0 : x.cell? ⟨gb, o + 3, none⟩ = some (.int .i64 vb.w) := bel_cell hBx hg vb0; have qvb1 : x.cell? ⟨gb, o + 4, none⟩ = some (.int .u64 vb.lo) := bel_cell hBx hg vb1; have qvb2 : x.cell? ⟨gb, o + 5, none⟩ = some (.int .u64 vb.hi) := bel_cell hBx hg vb2; clear hBx; clear haft hK hLi; go_simp; exact hk.out g x (fun _ _ => rfl) (hS.go rfl)
  apply LinAll.cons0
  · intro g L a x hLi haft hS hK; have t49 := hK.nw haft 2 3 49 rfl (by kernel_rfl); have t52 := hK.nw haft 5 0 52 rfl (by kernel_rfl); (try dsimp only at t49 t52); refine go_in (wanted_all rfl) ?_; intro K hk; clear haft hK hLi; go_simp; exact hk.out g x (fun _ _ => rfl) (hS.go rfl)
  apply LinAll.cons0
  · intro g L a x hLi haft hS hK; have t53 := hK.nw haft 6 0 53 rfl (by kernel_rfl); (try dsimp only at t53); refine go_in (wanted_all rfl) ?_; intro K hk; clear haft hK hLi; go_simp; refine Calls.mono (HT.out _) ?_; rintro e y ⟨rfl, hb⟩; exact hk.out g y (fun _ _ => rfl) (hS.on hb rfl)
  refine LinAll.cons0 (v := fun _ => undef) ?_ ?_
  · intro g L a x hLi haft hS hK; have t8 := (hK.old 8 (by kernel_rfl)).trans o8; have t54 := hK.nw haft 7 0 54 rfl (by kernel_rfl); (try dsimp only at t8 t54); refine go_in (wanted_all rfl) ?_; intro K hk; have hr0 := hS.rb; rw [hLi] at hr0; have q0 : x.cell? ⟨w.heap.size, 0, none⟩ = some (.int .i64 0) := cell_of hr0 0 rfl; have q1 : x.cell? ⟨w.heap.size, 1, none⟩ = some (.int .u64 0) := cell_of hr0 1 rfl; have q2 : x.cell? ⟨w.heap.size, 2, none⟩ = some (.int .u64 0) := cell_of hr0 2 rfl; have qf : ∀ j, x.frozen? ⟨w.heap.size, j, none⟩ = false := (fun j => by simp [World.frozen?, hr0]); have hst := hS.st3 hLi; clear hr0; clear haft hK; go_simp; exact hk.out g _ (fun _ _ => rfl) hst
  refine LinAll.nil fun g x hS => ?_
  subst ha0
  simp only [Act.put, List.setIfInBounds_toArray, List.set_cons_zero, List.set_cons_succ]
  clear o3 o8
  have r0 : x.cell? ⟨w.heap.size, 0, none⟩ = some (.int .i64 r.w) := cell_of hS.rb 0 rfl
  have r1 : x.cell? ⟨w.heap.size, 1, none⟩ = some (.int .u64 r.lo) := cell_of hS.rb 1 rfl
  have r2 : x.cell? ⟨w.heap.size, 2, none⟩ = some (.int .u64 r.hi) := cell_of hS.rb 2 rfl
  have hB : Below w.heap.size w x := hbU.trans (hS.below (Nat.le_refl _) hv2)
  clear hS
  go_wp2_with fail
  refine bodyPost_ret (v := .agg #[.int .i64 r.w, .int .u64 r.lo, .int .u64 r.hi]) (by simp [results, Tryz.results31, go_sem, r0, r1, r2]) rfl ?_
  exact ⟨rfl, hB⟩

theorem dm_8 {w : World} {gb o cc : Nat} {va vb r : Bt} {p q : Int} (h : Lb w gb o [va, vb]) (hg : gb < w.heap.size)
    (HT : Hid (∀ wx, Rt 51 #[.bool (eqT va vb)] wx (.agg #[.int .i64 r.w, .int .u64 r.lo, .int .u64 r.hi]))) :
    Rt 31 #[.int .i64 8, .int .i64 p, .int .i64 q, .slice (some ⟨gb, o, none⟩) 2 cc] w (.agg #[.int .i64 r.w, .int .u64 r.lo, .int .u64 r.hi]) := by
  have va0 : w.cell? ⟨gb, o, none⟩ = some (.int .i64 va.w) := h 0 va rfl 0 _ rfl
  have va1 : w.cell? ⟨gb, o + 1, none⟩ = some (.int .u64 va.lo) := h 0 va rfl 1 _ rfl
  have va2 : w.cell? ⟨gb, o + 2, none⟩ = some (.int .u64 va.hi) := h 0 va rfl 2 _ rfl
  have vb0 : w.cell? ⟨gb, o + 3, none⟩ = some (.int .i64 vb.w) := h 1 vb rfl 0 _ rfl
  have vb1 : w.cell? ⟨gb, o + 4, none⟩ = some (.int .u64 vb.lo) := h 1 vb rfl 1 _ rfl
  have vb2 : w.cell? ⟨gb, o + 5, none⟩ = some (.int .u64 vb.hi) := h 1 vb rfl 2 _ rfl
  clear h
  have heq := eq2 va vb
  obtain ⟨y, hy⟩ : ∃ y, y = eqT va vb := ⟨_, rfl⟩
  rw [← hy] at heq HT
  clear hy
  obtain ⟨wU, hwU⟩ : ∃ wU, wU = w.alloc (.cells #[.int .i64 0, .int .u64 0, .int .u64 0] 34) := ⟨_, rfl⟩
  have hbU : Below w.heap.size w wU := by rw [hwU]; go_grown
  have hsU : wU.heap.size = w.heap.size + 1 := by rw [hwU]; simp
  have hrU : wU.heap[w.heap.size]? = some (.cells #[.int .i64 0, .int .u64 0, .int .u64 0] 34) := by rw [hwU]; exact heap_alloc_new w _
  have HRB : Hid (wU.heap[w.heap.size]? = some (.cells [.int .i64 0, .int .u64 0, .int .u64 0].toArray 34)) := hrU
  have HWU : Hid _ := hwU
  have hv2 : w.heap.size ≤ wU.heap.size := by omega
  clear hrU hwU
  go_enter Tryz.func31, Tryz.ntmps31
  go_wp2_with fail
  rw [← HWU.out]
  refine wp_named fun a0 ha0 => ?_
  have o3 := old_at ha0 (t := 3) rfl
  have o8 := old_at ha0 (t := 8) rfl
  refine wp_region_lin (S := LS wU (w.heap.size) 8 [.int .i64 0, .int .u64 0, .int .u64 0] [.int .i64 r.w, .int .u64 r.lo, .int .u64 r.hi] 34) [] (fun _ => 0) (by kernel_rfl) (by kernel_rfl) (by rw [← ha0]; kernel_rfl) (LS.start HRB.out) ?_
  apply LinAll.cons0
  · intro g L a x hLi haft hS hK; have t3 := (hK.old 3 (by kernel_rfl)).trans o3; (try dsimp only at t3); refine go_in (wanted_all rfl) ?_; intro K hk; clear haft hK hLi; go_simp; exact hk.out g x (fun _ _ => rfl) (hS.go rfl)
  apply LinAll.cons0
  · intro g L a x hLi haft hS hK; have t71 := hK.nw haft 0 0 71 rfl (by kernel_rfl); (try dsimp only at t71); refine go_in (wanted_all rfl) ?_; intro K hk; clear haft hK hLi; go_simp; exact hk.out g x (fun _ _ => rfl) (hS.go rfl)
  apply LinAll.cons0
  · intro g L a x hLi haft hS hK; have t72 := hK.nw haft 1 0 72 rfl (by kernel_rfl); (try dsimp only at t72); refine go_in (wanted_all rfl) ?_; intro K hk; have hBx : Below w.heap.size w x := hbU.trans (hS.below (Nat.le_refl _) hv2); have qva0 : x.cell? ⟨gb, o, none⟩ = some (.int .i64 va.w) := bel_cell hBx hg va0; have qva1 : x.cell? ⟨gb, o + 1, none⟩ = some (.int .u64 va.lo) := bel_cell hBx hg va1; have qva2 : x.cell? ⟨gb, o + 2, none⟩ = some (.int .u64 va.hi) := bel_cell hBx hg va2; clear hBx; clear haft hK hLi; go_simp; exact hk.out g x (fun _ _ => rfl) (hS.go rfl)
  apply LinAll.cons0
  · intro g L a x hLi haft hS hK; have t3 := (hK.old 3 (by kernel_rfl)).trans o3; (try dsimp only at t3); refine go_in (wanted_all rfl) ?_; intro K hk; clear haft hK hLi; go_simp; exact hk.out g x (fun _ _ => rfl) (hS.go rfl)
  apply LinAll.cons0
  · intro g L a x hLi haft hS hK; have t74 := hK.nw haft 3 0 74 rfl (by kernel_rfl); (try dsimp only at t74); refine go_in (wanted_all rfl) ?_; intro K hk; clear haft hK hLi; go_simp; exact hk.out g x (fun _ _ => rfl) (hS.go rfl)
  apply LinAll.cons0
  · intro g L a x hLi haft hS hK; have t75 := hK.nw haft 4 0 75 rfl (by kernel_rfl); (try dsimp only at t75); refine go_in (wanted_all rfl) ?_; intro K hk; have hBx : Below w.heap.size w x := hbU.trans (hS.below (Nat.le_refl _) hv2); have qvb0 : x.cell? ⟨gb, o + 3, none⟩ = some (.int .i64 vb.w) := bel_cell hBx hg vb0; have qvb1 : x.cell? ⟨gb, o + 4, none⟩ = some (.int .u64 vb.lo) := bel_cell hBx hg vb1; have qvb2 : x.cell? ⟨gb, o + 5, none⟩ = some (.int .u64 vb.hi) := bel_cell hBx hg vb2; clear hBx; clear haft hK hLi; go_simp; exact hk.out g x (fun _ _ => rfl) (hS.go rfl)
  apply LinAll.cons0
  · intro g L a x hLi haft hS hK; have t73 := hK.nw haft 2 3 73 rfl (by kernel_rfl); have t76 := hK.nw haft 5 0 76 rfl (by kernel_rfl); (try dsimp only at t73 t76); refine go_in (wanted_all rfl) ?_; intro K hk; clear haft hK hLi; go_simp; exact hk.out g x (fun _ _ => rfl) (hS.go rfl)
  apply LinAll.cons0
  · intro g L a x hLi haft hS hK; have t77 := hK.nw haft 6 0 77 rfl (by kernel_rfl); (try dsimp only at t77); refine go_in (wanted_all rfl) ?_; intro K hk; clear haft hK hLi; go_simp; refine Calls.mono (HT.out _) ?_; rintro e y ⟨rfl, hb⟩; exact hk.out g y (fun _ _ => rfl) (hS.on hb rfl)
  refine LinAll.cons0 (v := fun _ => undef) ?_ ?_
  · intro g L a x hLi haft hS hK; have t8 := (hK.old 8 (by kernel_rfl)).trans o8; have t78 := hK.nw haft 7 0 78 rfl (by kernel_rfl); (try dsimp only at t8 t78); refine go_in (wanted_all rfl) ?_; intro K hk; have hr0 := hS.rb; rw [hLi] at hr0; have q0 : x.cell? ⟨w.heap.size, 0, none⟩ = some (.int .i64 0) := cell_of hr0 0 rfl; have q1 : x.cell? ⟨w.heap.size, 1, none⟩ = some (.int .u64 0) := cell_of hr0 1 rfl; have q2 : x.cell? ⟨w.heap.size, 2, none⟩ = some (.int .u64 0) := cell_of hr0 2 rfl; have qf : ∀ j, x.frozen? ⟨w.heap.size, j, none⟩ = false := (fun j => by simp [World.frozen?, hr0]); have hst := hS.st3 hLi; clear hr0; clear haft hK; go_simp; exact hk.out g _ (fun _ _ => rfl) hst
  refine LinAll.nil fun g x hS => ?_
  subst ha0
  simp only [Act.put, List.setIfInBounds_toArray, List.set_cons_zero, List.set_cons_succ]
  clear o3 o8
  have r0 : x.cell? ⟨w.heap.size, 0, none⟩ = some (.int .i64 r.w) := cell_of hS.rb 0 rfl
  have r1 : x.cell? ⟨w.heap.size, 1, none⟩ = some (.int .u64 r.lo) := cell_of hS.rb 1 rfl
  have r2 : x.cell? ⟨w.heap.size, 2, none⟩ = some (.int .u64 r.hi) := cell_of hS.rb 2 rfl
  have hB : Below w.heap.size w x := hbU.trans (hS.below (Nat.le_refl _) hv2)
  clear hS
  go_wp2_with fail
  refine bodyPost_ret (v := .agg #[.int .i64 r.w, .int .u64 r.lo, .int .u64 r.hi]) (by simp [results, Tryz.results31, go_sem, r0, r1, r2]) rfl ?_
  exact ⟨rfl, hB⟩
end Go.Proofs.YtnflphhckgeneaaGreat
