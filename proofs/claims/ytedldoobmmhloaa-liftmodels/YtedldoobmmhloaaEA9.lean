import Derived.Test.YtedldoobmmhloaaMg33
import Derived.Test.YtedldoobmmhloaaLin2
namespace Go.Proofs.Ytedldoobmmhloaa
set_option maxHeartbeats 12800000
set_option maxRecDepth 100000
open Go.RowKit
set_option linter.unusedSimpArgs false
set_option linter.unusedVariables false
structure LS (w0 : World) (R st : Nat) (c0 c1 : List Value) (T : TypeId) (g : Nat → Nat) (L : Nat → Bool) (x : World) : Prop where
 sz : w0.heap.size ≤ x.heap.size
 os : x.os = w0.os
 tape : x.tape = w0.tape
 output : x.output = w0.output
 kp : ∀ k, k < w0.heap.size → k ≠ R → x.heap[k]? = w0.heap[k]?
 rb : x.heap[R]? = some (.cells (if L st = true then c1 else c0).toArray T)
section
variable {w0 x y : World} {R st i : Nat} {c0 c1 : List Value} {T : TypeId} {g : Nat → Nat} {L : Nat → Bool}
theorem LS.start (h : w0.heap[R]? = some (.cells c0.toArray T)) : LS w0 R st c0 c1 T g (fun _ => false) w0.drew := ⟨Nat.le_refl _, rfl, rfl, rfl, fun _ _ _ => rfl, h⟩
theorem LS.go (h : LS w0 R st c0 c1 T g L x) (hi : (i != st) = true) : LS w0 R st c0 c1 T g (updB L i) x := by
 have u := updB_ne (L := L) (i := i) (k := st) (by simp at hi; omega)
 exact ⟨h.sz, h.os, h.tape, h.output, h.kp, by rw [u]; exact h.rb⟩
theorem LS.on (h : LS w0 R st c0 c1 T g L x) (hb : Below x.heap.size x y) (hi : (i != st) = true) : LS w0 R st c0 c1 T g (updB L i) y := by
 have u := updB_ne (L := L) (i := i) (k := st) (by simp at hi; omega)
 have hR := (Array.getElem?_eq_some_iff.1 h.rb).1
 exact ⟨Nat.le_trans h.sz hb.size, hb.os.trans h.os, hb.tape.trans h.tape, hb.output.trans h.output, fun k hk hn => (hb.block k (Nat.lt_of_lt_of_le hk h.sz)).trans (h.kp k hk hn), by rw [u, hb.block R hR]; exact h.rb⟩
theorem LS.below (h : LS w0 R st c0 c1 T g L x) {B : Nat} (hB : B ≤ R) (hB2 : B ≤ w0.heap.size) : Below B w0 x := ⟨h.os, h.tape, h.output, h.sz, fun k hk => h.kp k (by omega) (by omega)⟩
theorem LS.st3 {a b c a' b' c' : Value} (h : LS w0 R st [a', b', c'] [a, b, c] T g L x) (hL : L st = false) : LS w0 R st [a', b', c'] [a, b, c] T g (updB L st) (((x.setCell ⟨R, 0, none⟩ a).setCell ⟨R, 1, none⟩ b).setCell ⟨R, 2, none⟩ c) := by
 have hr := h.rb
 rw [hL] at hr
 refine ⟨by simp only [World.size_setCell]; exact h.sz, h.os, h.tape, h.output, fun k hk hn => ?_, ?_⟩
 ·rw [heap_setCell_other _ _ _ _ (by exact hn), heap_setCell_other _ _ _ _ (by exact hn), heap_setCell_other _ _ _ _ (by exact hn)]; exact h.kp k hk hn
 ·rw [updB_eq]
  have h1 := heap_setCell_same x R 0 _ _ a hr
  have h2 := heap_setCell_same _ R 1 _ _ b h1
  have h3 := heap_setCell_same _ R 2 _ _ c h2
  exact h3
end
theorem fit_yes {w : World} {b : Nat} {M : List (Int × Bt)} {id s : Int} {v : Bt} (h : Bm w b M) (hk : w64 id) (hv : getM M id = some v) (hB : Bk v) :
  Calls Try.prog 28 #[.map (some b), .int .i64 id, .int .i64 s] w fun e w' => e = .returned (.tuple #[.agg #[.int .i64 v.w, .int .u64 v.lo, .int .u64 v.hi], .bool (fits M id s)]) ∧ Below w.heap.size w w' := by
 obtain ⟨r, hr⟩ : ∃ r, r = rgt v.w v.lo v.hi := ⟨_, rfl⟩
 have hlk : (Instr.lookup 63 (.map (some b)) (.int .i64 id) true).run Try.prog (w.alloc (.cells #[.int .i64 0, .int .u64 0, .int .u64 0] 25)) = .ok (.tuple #[.agg #[.int .i64 v.w, .int .u64 v.lo, .int .u64 v.hi], .bool true]) (w.alloc (.cells #[.int .i64 0, .int .u64 0, .int .u64 0] 25)) := by
  have h1 := (h.kept (heap_alloc_old w (.cells #[.int .i64 0, .int .u64 0, .int .u64 0] 25) h.mp.lt)).look hk
  rw [hv] at h1
  exact h1
 have HE : Hid (fits M id s = (r && decide (v.w = s))) := by unfold Hid fits; rw [hv, hr]; rfl
 have HR : Hid (∀ wx, Calls Try.prog 22 #[.agg #[.int .i64 v.w, .int .u64 v.lo, .int .u64 v.hi]] wx fun e w' => e = .returned (.bool r) ∧ Below wx.heap.size wx w') := fun wx => by rw [hr]; exact right_all hB.l0 hB.l1 hB.h0 hB.h1 wx
 obtain ⟨F, hF⟩ : ∃ F, F = fits M id s := ⟨_, rfl⟩
 rw [← hF] at HE ⊢
 clear h hk hv hB hr hF
 have prep : ∃ wU, wU = (w.alloc (.cells #[.int .i64 0, .int .u64 0, .int .u64 0] 25)).alloc (.cells #[.int .i64 v.w, .int .u64 v.lo, .int .u64 v.hi] 25) ∧ Below w.heap.size w wU ∧ wU.heap.size = w.heap.size + 2 ∧ wU.heap[w.heap.size]? = some (.cells #[.int .i64 0, .int .u64 0, .int .u64 0] 25) ∧ wU.heap[w.heap.size + 1]? = some (.cells #[.int .i64 v.w, .int .u64 v.lo, .int .u64 v.hi] 25) := by
  refine ⟨_, rfl, by go_grown, by simp, (heap_alloc_old _ _ (by simp)).trans (heap_alloc_new w _), ?_⟩
  have h1 := heap_alloc_new (w.alloc (.cells #[.int .i64 0, .int .u64 0, .int .u64 0] 25)) (.cells #[.int .i64 v.w, .int .u64 v.lo, .int .u64 v.hi] 25)
  rw [size_alloc'] at h1
  exact h1
 obtain ⟨wU, hwU, hbU, hsU, hrU, hvU⟩ := prep
 have HRB : Hid (wU.heap[w.heap.size]? = some (.cells [.int .i64 0, .int .u64 0, .int .u64 0].toArray 25)) := hrU
 have HV : Hid (wU.heap[w.heap.size + 1]? = some (.cells #[.int .i64 v.w, .int .u64 v.lo, .int .u64 v.hi] 25)) := hvU
 have HWU : Hid _ := hwU
 have hv1 : w.heap.size + 1 < wU.heap.size := by omega
 have hv2 : w.heap.size < wU.heap.size := by omega
 clear hrU hvU hwU hsU
 cases r
 ·have hF : F = false := by rw [HE.out]; rfl
  subst hF
  go_enter Try.func28, Try.ntmps28
  go_wp2_with fail
  rw [← HWU.out]
  refine wp_named fun a0 ha0 => ?_
  have o2 := old_at ha0 (t := 2) rfl
  have o6 := old_at ha0 (t := 6) rfl
  have o8 := old_at ha0 (t := 8) rfl
  have o9 := old_at ha0 (t := 9) rfl
  refine wp_region_lin (S := LS wU w.heap.size 12 [.int .i64 0, .int .u64 0, .int .u64 0] [.int .i64 v.w, .int .u64 v.lo, .int .u64 v.hi] 25) [] (fun _ => 0) (by kernel_rfl) (by kernel_rfl) (by rw [← ha0]; kernel_rfl) (LS.start HRB.out) ?_
  apply LinAll.cons0
  ·intro g L a x hLi haft hS hK; have t8 := (hK.old 8 (by kernel_rfl)).trans o8; (try dsimp only at t8); refine go_in (wanted_all rfl) ?_; intro K hk; have hv := (hS.kp (w.heap.size + 1) hv1 (by omega)).trans HV.out; have q0 : x.cell? ⟨w.heap.size + 1, 0, none⟩ = some (.int .i64 v.w) := cell_of hv 0 rfl; have q1 : x.cell? ⟨w.heap.size + 1, 1, none⟩ = some (.int .u64 v.lo) := cell_of hv 1 rfl; have q2 : x.cell? ⟨w.heap.size + 1, 2, none⟩ = some (.int .u64 v.hi) := cell_of hv 2 rfl; clear hv; clear haft hK hLi; go_simp; exact hk.out g x (fun _ _ => rfl) (hS.go rfl)
  apply LinAll.cons0
  ·intro g L a x hLi haft hS hK; have t9 := (hK.old 9 (by kernel_rfl)).trans o9; (try dsimp only at t9); refine go_in (wanted_all rfl) ?_; intro K hk; clear haft hK hLi; go_simp; exact hk.out g x (fun _ _ => rfl) (hS.go rfl)
  apply LinAll.cons0
  ·intro g L a x hLi haft hS hK; have t17 := hK.nw haft 1 0 17 rfl (by kernel_rfl); (try dsimp only at t17); refine go_in (wanted_all rfl) ?_; intro K hk; clear haft hK hLi; go_simp; exact hk.out g x (fun _ _ => rfl) (hS.go rfl)
  apply LinAll.cons0
  ·intro g L a x hLi haft hS hK; have t8 := (hK.old 8 (by kernel_rfl)).trans o8; have tg := hK.nw haft 2 0 18 rfl (by kernel_rfl); (try dsimp only at t8); refine go_in (wanted_at rfl rfl rfl tg rfl) ?_; intro K hk; have hv := (hS.kp (w.heap.size + 1) hv1 (by omega)).trans HV.out; have q0 : x.cell? ⟨w.heap.size + 1, 0, none⟩ = some (.int .i64 v.w) := cell_of hv 0 rfl; have q1 : x.cell? ⟨w.heap.size + 1, 1, none⟩ = some (.int .u64 v.lo) := cell_of hv 1 rfl; have q2 : x.cell? ⟨w.heap.size + 1, 2, none⟩ = some (.int .u64 v.hi) := cell_of hv 2 rfl; clear hv; clear haft hK tg hLi; go_simp; exact hk.out g x (fun _ _ => rfl) (hS.go rfl)
  apply LinAll.cons0
  ·intro g L a x hLi haft hS hK; have t19 := hK.nw haft 3 0 19 rfl (by kernel_rfl); have tg := hK.nw haft 2 1 18 rfl (by kernel_rfl); (try dsimp only at t19); refine go_in (wanted_at rfl rfl rfl tg rfl) ?_; intro K hk; clear haft hK tg hLi; go_simp; refine Calls.mono (HR.out _) ?_; rintro e y ⟨rfl, hb⟩; exact hk.out g y (fun _ _ => rfl) (hS.on hb rfl)
  apply LinAll.cons0
  ·intro g L a x hLi haft hS hK; have t18 := hK.nw haft 2 2 18 rfl (by kernel_rfl); have t20 := hK.nw haft 4 0 20 rfl (by kernel_rfl); (try dsimp only at t18 t20); refine go_in (wanted_all rfl) ?_; intro K hk; clear haft hK hLi; go_simp; exact hk.out g x (fun _ _ => rfl) (hS.go rfl)
  apply LinAll.cons0
  ·intro g L a x hLi haft hS hK; have t21 := hK.nw haft 5 0 21 rfl (by kernel_rfl); (try dsimp only at t21); refine go_in (wanted_all rfl) ?_; intro K hk; clear haft hK hLi; go_simp; exact hk.out g x (fun _ _ => rfl) (hS.go rfl)
  refine LinAll.cons0 (v := fun _ => undef) ?_ ?_
  ·intro g L a x hLi haft hS hK; have t8 := (hK.old 8 (by kernel_rfl)).trans o8; have tg := hK.nw haft 6 0 22 rfl (by kernel_rfl); (try dsimp only at t8); exact go_out (wanted_at rfl rfl rfl tg rfl) ⟨rfl, hS.go rfl⟩
  refine LinAll.cons0 (v := fun _ => undef) ?_ ?_
  ·intro g L a x hLi haft hS hK; have t23 := hK.nw haft 7 0 23 rfl (by kernel_rfl); have tg := hK.nw haft 6 1 22 rfl (by kernel_rfl); (try dsimp only at t23); exact go_out (wanted_at rfl rfl rfl tg rfl) ⟨rfl, hS.go rfl⟩
  refine LinAll.cons0 (v := fun _ => undef) ?_ ?_
  ·intro g L a x hLi haft hS hK; have t2 := (hK.old 2 (by kernel_rfl)).trans o2; have tg := hK.nw haft 6 2 22 rfl (by kernel_rfl); (try dsimp only at t2); exact go_out (wanted_at rfl rfl rfl tg rfl) ⟨rfl, hS.go rfl⟩
  refine LinAll.cons0 (v := fun _ => undef) ?_ ?_
  ·intro g L a x hLi haft hS hK; have t24 := hK.nw haft 8 1 24 rfl (by kernel_rfl); have t25 := hK.nw haft 9 0 25 rfl (by kernel_rfl); have tg := hK.nw haft 6 3 22 rfl (by kernel_rfl); (try dsimp only at t24 t25); exact go_out (wanted_at rfl rfl rfl tg rfl) ⟨rfl, hS.go rfl⟩
  apply LinAll.cons0
  ·intro g L a x hLi haft hS hK; have t22 := hK.nw haft 6 4 22 rfl (by kernel_rfl); have t26 := hK.nw haft 10 0 26 rfl (by kernel_rfl); (try dsimp only at t22 t26); refine go_in (wanted_all rfl) ?_; intro K hk; clear haft hK hLi; go_simp; exact hk.out g x (fun _ _ => rfl) (hS.go rfl)
  refine LinAll.cons0 (v := fun _ => undef) ?_ ?_
  ·intro g L a x hLi haft hS hK; have t6 := (hK.old 6 (by kernel_rfl)).trans o6; have t16 := hK.nw haft 0 11 16 rfl (by kernel_rfl); (try dsimp only at t6 t16); refine go_in (wanted_all rfl) ?_; intro K hk; have hr0 := hS.rb; rw [hLi] at hr0; have q0 : x.cell? ⟨w.heap.size, 0, none⟩ = some (.int .i64 0) := cell_of hr0 0 rfl; have q1 : x.cell? ⟨w.heap.size, 1, none⟩ = some (.int .u64 0) := cell_of hr0 1 rfl; have q2 : x.cell? ⟨w.heap.size, 2, none⟩ = some (.int .u64 0) := cell_of hr0 2 rfl; have qf : ∀ j, x.frozen? ⟨w.heap.size, j, none⟩ = false := (fun j => by simp [World.frozen?, hr0]); have hst := hS.st3 hLi; clear hr0; clear haft hK; go_simp; exact hk.out g _ (fun _ _ => rfl) hst
  apply LinAll.cons0
  ·intro g L a x hLi haft hS hK; have t27 := hK.nw haft 11 1 27 rfl (by kernel_rfl); (try dsimp only at t27); refine go_in (wanted_all rfl) ?_; intro K hk; clear haft hK hLi; go_simp; exact hk.out g x (fun _ _ => rfl) (hS.go rfl)
  refine LinAll.nil fun g x hS => ?_
  subst ha0
  simp only [Act.put, List.setIfInBounds_toArray, List.set_cons_zero, List.set_cons_succ]
  clear o2 o6 o8 o9
  have r0 : x.cell? ⟨w.heap.size, 0, none⟩ = some (.int .i64 v.w) := cell_of hS.rb 0 rfl
  have r1 : x.cell? ⟨w.heap.size, 1, none⟩ = some (.int .u64 v.lo) := cell_of hS.rb 1 rfl
  have r2 : x.cell? ⟨w.heap.size, 2, none⟩ = some (.int .u64 v.hi) := cell_of hS.rb 2 rfl
  have hB : Below w.heap.size w x := hbU.trans (hS.below (Nat.le_refl _) (by omega))
  clear hS
  go_wp2_with fail
  refine bodyPost_ret (v := .tuple #[.agg #[.int .i64 v.w, .int .u64 v.lo, .int .u64 v.hi], .bool false]) (by simp [results, Try.results28, go_sem, r0, r1, r2]) rfl ?_
  exact ⟨rfl, hB⟩
 ·by_cases hw : v.w = s
  ·have hF : F = true := by rw [HE.out]; simp [hw]
   subst hF
   have zw : (v.w == s) = true := by simp [hw]
   clear hw
   go_enter Try.func28, Try.ntmps28
   go_wp2_with fail
   rw [← HWU.out]
   refine wp_named fun a0 ha0 => ?_
   have o2 := old_at ha0 (t := 2) rfl
   have o6 := old_at ha0 (t := 6) rfl
   have o8 := old_at ha0 (t := 8) rfl
   have o9 := old_at ha0 (t := 9) rfl
   refine wp_region_lin (S := LS wU w.heap.size 12 [.int .i64 0, .int .u64 0, .int .u64 0] [.int .i64 v.w, .int .u64 v.lo, .int .u64 v.hi] 25) [] (fun _ => 0) (by kernel_rfl) (by kernel_rfl) (by rw [← ha0]; kernel_rfl) (LS.start HRB.out) ?_
   apply LinAll.cons0
   ·intro g L a x hLi haft hS hK; have t8 := (hK.old 8 (by kernel_rfl)).trans o8; (try dsimp only at t8); refine go_in (wanted_all rfl) ?_; intro K hk; have hv := (hS.kp (w.heap.size + 1) hv1 (by omega)).trans HV.out; have q0 : x.cell? ⟨w.heap.size + 1, 0, none⟩ = some (.int .i64 v.w) := cell_of hv 0 rfl; have q1 : x.cell? ⟨w.heap.size + 1, 1, none⟩ = some (.int .u64 v.lo) := cell_of hv 1 rfl; have q2 : x.cell? ⟨w.heap.size + 1, 2, none⟩ = some (.int .u64 v.hi) := cell_of hv 2 rfl; clear hv; clear haft hK hLi; go_simp; exact hk.out g x (fun _ _ => rfl) (hS.go rfl)
   apply LinAll.cons0
   ·intro g L a x hLi haft hS hK; have t9 := (hK.old 9 (by kernel_rfl)).trans o9; (try dsimp only at t9); refine go_in (wanted_all rfl) ?_; intro K hk; clear haft hK hLi; go_simp; exact hk.out g x (fun _ _ => rfl) (hS.go rfl)
   apply LinAll.cons0
   ·intro g L a x hLi haft hS hK; have t17 := hK.nw haft 1 0 17 rfl (by kernel_rfl); (try dsimp only at t17); refine go_in (wanted_all rfl) ?_; intro K hk; clear haft hK hLi; go_simp; exact hk.out g x (fun _ _ => rfl) (hS.go rfl)
   apply LinAll.cons0
   ·intro g L a x hLi haft hS hK; have t8 := (hK.old 8 (by kernel_rfl)).trans o8; have tg := hK.nw haft 2 0 18 rfl (by kernel_rfl); (try dsimp only at t8); refine go_in (wanted_at rfl rfl rfl tg rfl) ?_; intro K hk; have hv := (hS.kp (w.heap.size + 1) hv1 (by omega)).trans HV.out; have q0 : x.cell? ⟨w.heap.size + 1, 0, none⟩ = some (.int .i64 v.w) := cell_of hv 0 rfl; have q1 : x.cell? ⟨w.heap.size + 1, 1, none⟩ = some (.int .u64 v.lo) := cell_of hv 1 rfl; have q2 : x.cell? ⟨w.heap.size + 1, 2, none⟩ = some (.int .u64 v.hi) := cell_of hv 2 rfl; clear hv; clear haft hK tg hLi; go_simp; exact hk.out g x (fun _ _ => rfl) (hS.go rfl)
   apply LinAll.cons0
   ·intro g L a x hLi haft hS hK; have t19 := hK.nw haft 3 0 19 rfl (by kernel_rfl); have tg := hK.nw haft 2 1 18 rfl (by kernel_rfl); (try dsimp only at t19); refine go_in (wanted_at rfl rfl rfl tg rfl) ?_; intro K hk; clear haft hK tg hLi; go_simp; refine Calls.mono (HR.out _) ?_; rintro e y ⟨rfl, hb⟩; exact hk.out g y (fun _ _ => rfl) (hS.on hb rfl)
   apply LinAll.cons0
   ·intro g L a x hLi haft hS hK; have t18 := hK.nw haft 2 2 18 rfl (by kernel_rfl); have t20 := hK.nw haft 4 0 20 rfl (by kernel_rfl); (try dsimp only at t18 t20); refine go_in (wanted_all rfl) ?_; intro K hk; clear haft hK hLi; go_simp; exact hk.out g x (fun _ _ => rfl) (hS.go rfl)
   apply LinAll.cons0
   ·intro g L a x hLi haft hS hK; have t21 := hK.nw haft 5 0 21 rfl (by kernel_rfl); (try dsimp only at t21); refine go_in (wanted_all rfl) ?_; intro K hk; clear haft hK hLi; go_simp; exact hk.out g x (fun _ _ => rfl) (hS.go rfl)
   apply LinAll.cons0
   ·intro g L a x hLi haft hS hK; have t8 := (hK.old 8 (by kernel_rfl)).trans o8; have tg := hK.nw haft 6 0 22 rfl (by kernel_rfl); (try dsimp only at t8); refine go_in (wanted_at rfl rfl rfl tg rfl) ?_; intro K hk; clear haft hK tg hLi; go_simp; exact hk.out g x (fun _ _ => rfl) (hS.go rfl)
   apply LinAll.cons0
   ·intro g L a x hLi haft hS hK; have t23 := hK.nw haft 7 0 23 rfl (by kernel_rfl); have tg := hK.nw haft 6 1 22 rfl (by kernel_rfl); (try dsimp only at t23); refine go_in (wanted_at rfl rfl rfl tg rfl) ?_; intro K hk; have hv := (hS.kp (w.heap.size + 1) hv1 (by omega)).trans HV.out; have q0 : x.cell? ⟨w.heap.size + 1, 0, none⟩ = some (.int .i64 v.w) := cell_of hv 0 rfl; have q1 : x.cell? ⟨w.heap.size + 1, 1, none⟩ = some (.int .u64 v.lo) := cell_of hv 1 rfl; have q2 : x.cell? ⟨w.heap.size + 1, 2, none⟩ = some (.int .u64 v.hi) := cell_of hv 2 rfl; clear hv; clear haft hK tg hLi; go_simp; exact hk.out g x (fun _ _ => rfl) (hS.go rfl)
   apply LinAll.cons0
   ·intro g L a x hLi haft hS hK; have t2 := (hK.old 2 (by kernel_rfl)).trans o2; have tg := hK.nw haft 6 2 22 rfl (by kernel_rfl); (try dsimp only at t2); refine go_in (wanted_at rfl rfl rfl tg rfl) ?_; intro K hk; clear haft hK tg hLi; go_simp; exact hk.out g x (fun _ _ => rfl) (hS.go rfl)
   apply LinAll.cons0
   ·intro g L a x hLi haft hS hK; have t24 := hK.nw haft 8 1 24 rfl (by kernel_rfl); have t25 := hK.nw haft 9 0 25 rfl (by kernel_rfl); have tg := hK.nw haft 6 3 22 rfl (by kernel_rfl); (try dsimp only at t24 t25); refine go_in (wanted_at rfl rfl rfl tg rfl) ?_; intro K hk; clear haft hK tg hLi; go_simp; exact hk.out g x (fun _ _ => rfl) (hS.go rfl)
   apply LinAll.cons0
   ·intro g L a x hLi haft hS hK; have t22 := hK.nw haft 6 4 22 rfl (by kernel_rfl); have t26 := hK.nw haft 10 0 26 rfl (by kernel_rfl); (try dsimp only at t22 t26); refine go_in (wanted_all rfl) ?_; intro K hk; clear haft hK hLi; go_simp; exact hk.out g x (fun _ _ => rfl) (hS.go rfl)
   refine LinAll.cons0 (v := fun _ => undef) ?_ ?_
   ·intro g L a x hLi haft hS hK; have t6 := (hK.old 6 (by kernel_rfl)).trans o6; have t16 := hK.nw haft 0 11 16 rfl (by kernel_rfl); (try dsimp only at t6 t16); refine go_in (wanted_all rfl) ?_; intro K hk; have hr0 := hS.rb; rw [hLi] at hr0; have q0 : x.cell? ⟨w.heap.size, 0, none⟩ = some (.int .i64 0) := cell_of hr0 0 rfl; have q1 : x.cell? ⟨w.heap.size, 1, none⟩ = some (.int .u64 0) := cell_of hr0 1 rfl; have q2 : x.cell? ⟨w.heap.size, 2, none⟩ = some (.int .u64 0) := cell_of hr0 2 rfl; have qf : ∀ j, x.frozen? ⟨w.heap.size, j, none⟩ = false := (fun j => by simp [World.frozen?, hr0]); have hst := hS.st3 hLi; clear hr0; clear haft hK; go_simp; exact hk.out g _ (fun _ _ => rfl) hst
   apply LinAll.cons0
   ·intro g L a x hLi haft hS hK; have t27 := hK.nw haft 11 1 27 rfl (by kernel_rfl); (try dsimp only at t27); refine go_in (wanted_all rfl) ?_; intro K hk; clear haft hK hLi; go_simp; exact hk.out g x (fun _ _ => rfl) (hS.go rfl)
   refine LinAll.nil fun g x hS => ?_
   subst ha0
   simp only [Act.put, List.setIfInBounds_toArray, List.set_cons_zero, List.set_cons_succ]
   clear o2 o6 o8 o9
   have r0 : x.cell? ⟨w.heap.size, 0, none⟩ = some (.int .i64 v.w) := cell_of hS.rb 0 rfl
   have r1 : x.cell? ⟨w.heap.size, 1, none⟩ = some (.int .u64 v.lo) := cell_of hS.rb 1 rfl
   have r2 : x.cell? ⟨w.heap.size, 2, none⟩ = some (.int .u64 v.hi) := cell_of hS.rb 2 rfl
   have hB : Below w.heap.size w x := hbU.trans (hS.below (Nat.le_refl _) (by omega))
   clear hS
   go_wp2_with fail
   refine bodyPost_ret (v := .tuple #[.agg #[.int .i64 v.w, .int .u64 v.lo, .int .u64 v.hi], .bool true]) (by simp [results, Try.results28, go_sem, r0, r1, r2]) rfl ?_
   exact ⟨rfl, hB⟩
  ·have hF : F = false := by rw [HE.out]; simp [hw]
   subst hF
   have zw : (v.w == s) = false := by simp [hw]
   clear hw
   go_enter Try.func28, Try.ntmps28
   go_wp2_with fail
   rw [← HWU.out]
   refine wp_named fun a0 ha0 => ?_
   have o2 := old_at ha0 (t := 2) rfl
   have o6 := old_at ha0 (t := 6) rfl
   have o8 := old_at ha0 (t := 8) rfl
   have o9 := old_at ha0 (t := 9) rfl
   refine wp_region_lin (S := LS wU w.heap.size 12 [.int .i64 0, .int .u64 0, .int .u64 0] [.int .i64 v.w, .int .u64 v.lo, .int .u64 v.hi] 25) [] (fun _ => 0) (by kernel_rfl) (by kernel_rfl) (by rw [← ha0]; kernel_rfl) (LS.start HRB.out) ?_
   apply LinAll.cons0
   ·intro g L a x hLi haft hS hK; have t8 := (hK.old 8 (by kernel_rfl)).trans o8; (try dsimp only at t8); refine go_in (wanted_all rfl) ?_; intro K hk; have hv := (hS.kp (w.heap.size + 1) hv1 (by omega)).trans HV.out; have q0 : x.cell? ⟨w.heap.size + 1, 0, none⟩ = some (.int .i64 v.w) := cell_of hv 0 rfl; have q1 : x.cell? ⟨w.heap.size + 1, 1, none⟩ = some (.int .u64 v.lo) := cell_of hv 1 rfl; have q2 : x.cell? ⟨w.heap.size + 1, 2, none⟩ = some (.int .u64 v.hi) := cell_of hv 2 rfl; clear hv; clear haft hK hLi; go_simp; exact hk.out g x (fun _ _ => rfl) (hS.go rfl)
   apply LinAll.cons0
   ·intro g L a x hLi haft hS hK; have t9 := (hK.old 9 (by kernel_rfl)).trans o9; (try dsimp only at t9); refine go_in (wanted_all rfl) ?_; intro K hk; clear haft hK hLi; go_simp; exact hk.out g x (fun _ _ => rfl) (hS.go rfl)
   apply LinAll.cons0
   ·intro g L a x hLi haft hS hK; have t17 := hK.nw haft 1 0 17 rfl (by kernel_rfl); (try dsimp only at t17); refine go_in (wanted_all rfl) ?_; intro K hk; clear haft hK hLi; go_simp; exact hk.out g x (fun _ _ => rfl) (hS.go rfl)
   apply LinAll.cons0
   ·intro g L a x hLi haft hS hK; have t8 := (hK.old 8 (by kernel_rfl)).trans o8; have tg := hK.nw haft 2 0 18 rfl (by kernel_rfl); (try dsimp only at t8); refine go_in (wanted_at rfl rfl rfl tg rfl) ?_; intro K hk; have hv := (hS.kp (w.heap.size + 1) hv1 (by omega)).trans HV.out; have q0 : x.cell? ⟨w.heap.size + 1, 0, none⟩ = some (.int .i64 v.w) := cell_of hv 0 rfl; have q1 : x.cell? ⟨w.heap.size + 1, 1, none⟩ = some (.int .u64 v.lo) := cell_of hv 1 rfl; have q2 : x.cell? ⟨w.heap.size + 1, 2, none⟩ = some (.int .u64 v.hi) := cell_of hv 2 rfl; clear hv; clear haft hK tg hLi; go_simp; exact hk.out g x (fun _ _ => rfl) (hS.go rfl)
   apply LinAll.cons0
   ·intro g L a x hLi haft hS hK; have t19 := hK.nw haft 3 0 19 rfl (by kernel_rfl); have tg := hK.nw haft 2 1 18 rfl (by kernel_rfl); (try dsimp only at t19); refine go_in (wanted_at rfl rfl rfl tg rfl) ?_; intro K hk; clear haft hK tg hLi; go_simp; refine Calls.mono (HR.out _) ?_; rintro e y ⟨rfl, hb⟩; exact hk.out g y (fun _ _ => rfl) (hS.on hb rfl)
   apply LinAll.cons0
   ·intro g L a x hLi haft hS hK; have t18 := hK.nw haft 2 2 18 rfl (by kernel_rfl); have t20 := hK.nw haft 4 0 20 rfl (by kernel_rfl); (try dsimp only at t18 t20); refine go_in (wanted_all rfl) ?_; intro K hk; clear haft hK hLi; go_simp; exact hk.out g x (fun _ _ => rfl) (hS.go rfl)
   apply LinAll.cons0
   ·intro g L a x hLi haft hS hK; have t21 := hK.nw haft 5 0 21 rfl (by kernel_rfl); (try dsimp only at t21); refine go_in (wanted_all rfl) ?_; intro K hk; clear haft hK hLi; go_simp; exact hk.out g x (fun _ _ => rfl) (hS.go rfl)
   apply LinAll.cons0
   ·intro g L a x hLi haft hS hK; have t8 := (hK.old 8 (by kernel_rfl)).trans o8; have tg := hK.nw haft 6 0 22 rfl (by kernel_rfl); (try dsimp only at t8); refine go_in (wanted_at rfl rfl rfl tg rfl) ?_; intro K hk; clear haft hK tg hLi; go_simp; exact hk.out g x (fun _ _ => rfl) (hS.go rfl)
   apply LinAll.cons0
   ·intro g L a x hLi haft hS hK; have t23 := hK.nw haft 7 0 23 rfl (by kernel_rfl); have tg := hK.nw haft 6 1 22 rfl (by kernel_rfl); (try dsimp only at t23); refine go_in (wanted_at rfl rfl rfl tg rfl) ?_; intro K hk; have hv := (hS.kp (w.heap.size + 1) hv1 (by omega)).trans HV.out; have q0 : x.cell? ⟨w.heap.size + 1, 0, none⟩ = some (.int .i64 v.w) := cell_of hv 0 rfl; have q1 : x.cell? ⟨w.heap.size + 1, 1, none⟩ = some (.int .u64 v.lo) := cell_of hv 1 rfl; have q2 : x.cell? ⟨w.heap.size + 1, 2, none⟩ = some (.int .u64 v.hi) := cell_of hv 2 rfl; clear hv; clear haft hK tg hLi; go_simp; exact hk.out g x (fun _ _ => rfl) (hS.go rfl)
   apply LinAll.cons0
   ·intro g L a x hLi haft hS hK; have t2 := (hK.old 2 (by kernel_rfl)).trans o2; have tg := hK.nw haft 6 2 22 rfl (by kernel_rfl); (try dsimp only at t2); refine go_in (wanted_at rfl rfl rfl tg rfl) ?_; intro K hk; clear haft hK tg hLi; go_simp; exact hk.out g x (fun _ _ => rfl) (hS.go rfl)
   apply LinAll.cons0
   ·intro g L a x hLi haft hS hK; have t24 := hK.nw haft 8 1 24 rfl (by kernel_rfl); have t25 := hK.nw haft 9 0 25 rfl (by kernel_rfl); have tg := hK.nw haft 6 3 22 rfl (by kernel_rfl); (try dsimp only at t24 t25); refine go_in (wanted_at rfl rfl rfl tg rfl) ?_; intro K hk; clear haft hK tg hLi; go_simp; exact hk.out g x (fun _ _ => rfl) (hS.go rfl)
   apply LinAll.cons0
   ·intro g L a x hLi haft hS hK; have t22 := hK.nw haft 6 4 22 rfl (by kernel_rfl); have t26 := hK.nw haft 10 0 26 rfl (by kernel_rfl); (try dsimp only at t22 t26); refine go_in (wanted_all rfl) ?_; intro K hk; clear haft hK hLi; go_simp; exact hk.out g x (fun _ _ => rfl) (hS.go rfl)
   refine LinAll.cons0 (v := fun _ => undef) ?_ ?_
   ·intro g L a x hLi haft hS hK; have t6 := (hK.old 6 (by kernel_rfl)).trans o6; have t16 := hK.nw haft 0 11 16 rfl (by kernel_rfl); (try dsimp only at t6 t16); refine go_in (wanted_all rfl) ?_; intro K hk; have hr0 := hS.rb; rw [hLi] at hr0; have q0 : x.cell? ⟨w.heap.size, 0, none⟩ = some (.int .i64 0) := cell_of hr0 0 rfl; have q1 : x.cell? ⟨w.heap.size, 1, none⟩ = some (.int .u64 0) := cell_of hr0 1 rfl; have q2 : x.cell? ⟨w.heap.size, 2, none⟩ = some (.int .u64 0) := cell_of hr0 2 rfl; have qf : ∀ j, x.frozen? ⟨w.heap.size, j, none⟩ = false := (fun j => by simp [World.frozen?, hr0]); have hst := hS.st3 hLi; clear hr0; clear haft hK; go_simp; exact hk.out g _ (fun _ _ => rfl) hst
   apply LinAll.cons0
   ·intro g L a x hLi haft hS hK; have t27 := hK.nw haft 11 1 27 rfl (by kernel_rfl); (try dsimp only at t27); refine go_in (wanted_all rfl) ?_; intro K hk; clear haft hK hLi; go_simp; exact hk.out g x (fun _ _ => rfl) (hS.go rfl)
   refine LinAll.nil fun g x hS => ?_
   subst ha0
   simp only [Act.put, List.setIfInBounds_toArray, List.set_cons_zero, List.set_cons_succ]
   clear o2 o6 o8 o9
   have r0 : x.cell? ⟨w.heap.size, 0, none⟩ = some (.int .i64 v.w) := cell_of hS.rb 0 rfl
   have r1 : x.cell? ⟨w.heap.size, 1, none⟩ = some (.int .u64 v.lo) := cell_of hS.rb 1 rfl
   have r2 : x.cell? ⟨w.heap.size, 2, none⟩ = some (.int .u64 v.hi) := cell_of hS.rb 2 rfl
   have hB : Below w.heap.size w x := hbU.trans (hS.below (Nat.le_refl _) (by omega))
   clear hS
   go_wp2_with fail
   refine bodyPost_ret (v := .tuple #[.agg #[.int .i64 v.w, .int .u64 v.lo, .int .u64 v.hi], .bool false]) (by simp [results, Try.results28, go_sem, r0, r1, r2]) rfl ?_
   exact ⟨rfl, hB⟩
end Go.Proofs.Ytedldoobmmhloaa
