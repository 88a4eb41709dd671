import Derived.Test.YtcahhahbcijkiaaGreatMg14
namespace Go.Proofs.YtcahhahbcijkiaaGreat.Ag
set_option maxHeartbeats 12800000
set_option maxRecDepth 100000
open Go.RowKit
set_option linter.unusedSimpArgs false
set_option linter.unusedVariables false
def roomOf (most : Int) : Nat := (min (max most 1) 32768).toNat
theorem mkArr (w : World) : (Instr.makeSlice 72 (.int .i64 1) (.int .i64 1)).run Tryz.prog w = .ok (.slice (some ⟨w.heap.size, 0, none⟩) 1 1) (w.alloc (.cells #[.int .i64 0, .int .i64 0] 100)) := by kernel_rfl
theorem gnew_any (most : Int) (w : World) :
  Calls Tryz.prog 9 #[.int .i64 most] w fun e w' => e = .returned (.pointer (some ⟨w.heap.size + 2, 0, none⟩)) ∧ Below w.heap.size w w' ∧ w'.heap.size = w.heap.size + 3 ∧ Gr w' (fun k => w.heap.size ≤ k ∧ k < w'.heap.size) (w.heap.size + 2) (roomOf most) [(0, 0)] := by
 have s1 : ∀ a : Obj, (w.alloc a).heap.size = w.heap.size + 1 := fun a => by simp
 have s2 : ∀ a b : Obj, ((w.alloc a).alloc b).heap.size = w.heap.size + 2 := fun a b => by simp
 have s3 : ∀ a b c : Obj, (((w.alloc a).alloc b).alloc c).heap.size = w.heap.size + 3 := fun a b c => by simp
 have key : ∀ x : Int, x = (roomOf most : Int) → Gr (((w.alloc (.cells #[.int .i64 0, .int .i64 0] 100)).alloc (.map #[] 0)).alloc (.cells #[.int .i64 x, .slice (some ⟨w.heap.size, 0, none⟩) 1 1, .map (some (w.heap.size + 1)), .slice none 0 0] 75)) (fun k => w.heap.size ≤ k ∧ k < w.heap.size + 3) (w.heap.size + 2) (roomOf most) [(0, 0)] := by
  rintro x rfl
  refine ⟨w.heap.size + 1, .slice (some ⟨w.heap.size, 0, none⟩) 1 1, .slice none 0 0, ⟨?_, ⟨rfl, Or.inr ⟨w.heap.size, 1, #[.int .i64 0, .int .i64 0], rfl, Nat.zero_le _, ?_, Nat.le_refl _, by decide, rfl, rfl⟩⟩, ⟨#[], 0, ?_, rfl, (fun p hp => nomatch hp)⟩, World.ownsRow_nil _ _ _ _, by unfold roomOf; omega, by simp [roomOf], Inv.one⟩, by omega, by omega, (fun b e => by cases e; exact ⟨Nat.le_refl _, Nat.lt_add_of_pos_right (by decide)⟩), (fun b e => by cases e)⟩
  ·rw [← s2 (.cells #[.int .i64 0, .int .i64 0] 100) (.map #[] 0)]; exact heap_alloc_new _ _
  ·exact (heap_alloc_old _ _ (by rw [s2]; omega)).trans ((heap_alloc_old _ _ (by rw [s1]; omega)).trans (heap_alloc_new w _))
  ·refine (heap_alloc_old _ _ (by rw [s2]; omega)).trans ?_
   rw [← s1 (.cells #[.int .i64 0, .int .i64 0] 100)]; exact heap_alloc_new _ _
 have HK : Hid _ := key
 have HS : Hid _ := s3
 clear key s1 s2 s3
 have hmm := @run_makeMap Tryz.prog
 have hmk := mkArr
 by_cases h1 : most < 1
 ·have e : Hid ((1 : Int) = (roomOf most : Int)) := by unfold Hid roomOf; omega
  go_enter Tryz.func9, Tryz.ntmps9
  go_wp2_with fail
  go_ret
  refine ⟨rfl, by go_grown, HS.out _ _ _, ?_⟩
  rw [HS.out]
  exact HK.out _ e.out
 ·by_cases h2 : most ≤ 32768
  ·have e : Hid (most = (roomOf most : Int)) := by unfold Hid roomOf; omega
   go_enter Tryz.func9, Tryz.ntmps9
   go_wp2_with fail
   go_ret
   refine ⟨rfl, by go_grown, HS.out _ _ _, ?_⟩
   rw [HS.out]
   exact HK.out _ e.out
  ·have e : Hid ((32768 : Int) = (roomOf most : Int)) := by unfold Hid roomOf; omega
   go_enter Tryz.func9, Tryz.ntmps9
   go_wp2_with fail
   go_ret
   refine ⟨rfl, by go_grown, HS.out _ _ _, ?_⟩
   rw [HS.out]
   exact HK.out _ e.out
structure ASt (w : World) (gB m : Nat) (v u : Value) (mo : Nat) (ks : List Kd) (k0 : Kd) (g : Nat → Nat) (L : Nat → Bool) (x : World) : Prop where
 d7 : L 7 = true → L 4 = true ∧ L 6 = true
 d10 : L 10 = true → L 7 = true
 bx : x.heap[w.heap.size]? = some (.cells (kcs k0).toArray 100)
 sz : w.heap.size + 1 ≤ x.heap.size
 os : x.os = w.os
 tape : x.tape = w.tape
 output : x.output = w.output
 kp : ∀ k, k < w.heap.size → (L 7 = true → some k ≠ v.ownBlock) → (L 10 = true → k ≠ gB) → x.heap[k]? = w.heap[k]?
 s6 : L 6 = true → L 7 = false → x.heap[g 6]? = some (.cells (kcs k0).toArray 100)
 r7 : L 7 = true → x.ownsRow 0 100 2 (sl (ks.length + 1) (g 7)) (ks.length + 1) ((ks ++ [k0]).flatMap kcs) ∧ ((sl (ks.length + 1) (g 7)).ownBlock = v.ownBlock ∨ ∃ b, (sl (ks.length + 1) (g 7)).ownBlock = some b ∧ w.heap.size + 1 ≤ b)
 h10 : L 10 = true → x.heap[gB]? = some (.cells #[.int .i64 (mo : Int), sl (ks.length + 1) (g 7), .map (some m), u] 75)
section
variable {w : World} {gB m mo : Nat} {v u : Value} {ks : List Kd} {k0 : Kd} {g : Nat → Nat} {L : Nat → Bool} {x y : World} {i : Nat}
theorem ASt.go (h : ASt w gB m v u mo ks k0 g L x) (hi : (i != 6 && i != 7 && i != 10) = true) : ASt w gB m v u mo ks k0 g (updB L i) x := by
 simp only [Bool.and_eq_true, bne_iff_ne, ne_eq] at hi
 have u6 := updB_ne (L := L) (i := i) (k := 6) (by omega)
 have u7 := updB_ne (L := L) (i := i) (k := 7) (by omega)
 have u10 := updB_ne (L := L) (i := i) (k := 10) (by omega)
 refine ⟨?_, by rw [u7, u10]; exact h.d10, h.bx, h.sz, h.os, h.tape, h.output, by rw [u7, u10]; exact h.kp, by rw [u6, u7]; exact h.s6, by rw [u7]; exact h.r7, by rw [u10]; exact h.h10⟩
 rw [u6, u7]
 intro e
 refine ⟨?_, (h.d7 e).2⟩
 by_cases h4 : i = 4
 ·subst h4; exact updB_eq
 ·rw [updB_ne (L := L) (i := i) (k := 4) (by omega)]; exact (h.d7 e).1
theorem ASt.no10 (h : ASt w gB m v u mo ks k0 g L x) (h7 : L 7 = false) : L 10 = false := by
 cases e : L 10
 ·rfl
 ·rw [h.d10 e] at h7; cases h7
theorem ASt.built (h : ASt w gB m v u mo ks k0 g L x) (h6 : L 6 = false) : ASt w gB m v u mo ks k0 (updG g 6 x.heap.size) (updB L 6) (x.alloc (.cells (kcs k0).toArray 100)) := by
 have h7 : L 7 = false := by
  cases e : L 7
  ·rfl
  ·rw [(h.d7 e).2] at h6; cases h6
 have h10 := h.no10 h7
 have u4 := updB_ne (L := L) (i := 6) (k := 4) (by decide)
 have u7 := updB_ne (L := L) (i := 6) (k := 7) (by decide)
 have u10 := updB_ne (L := L) (i := 6) (k := 10) (by decide)
 have hs := h.sz
 refine ⟨?_, ?_, (heap_alloc_old _ _ (by omega)).trans h.bx, by simp; omega, h.os, h.tape, h.output, ?_, ?_, ?_, ?_⟩
 ·rw [u7, h7]; intro e; cases e
 ·rw [u10, h10]; intro e; cases e
 ·rw [u7, u10]; intro k hk a b; exact (heap_alloc_old _ _ (by omega)).trans (h.kp k hk a b)
 ·intro _ _; rw [updG_eq]; exact heap_alloc_new _ _
 ·rw [u7, h7]; intro e; cases e
 ·rw [u10, h10]; intro e; cases e
theorem ASt.app {p : Nat} (h : ASt w gB m v u mo ks k0 g L x) (hL4 : L 4 = true) (hL6 : L 6 = true) (hL7 : L 7 = false) (hbv : ∀ k, v.ownBlock = some k → k < w.heap.size)
  (hg : x.grownBy y v.ownBlock) (ho : y.ownsRow 0 100 2 (sl (ks.length + 1) p) (ks.length + 1) ((ks ++ [k0]).flatMap kcs)) (hat : (sl (ks.length + 1) p).ownBlock = v.ownBlock ∨ (sl (ks.length + 1) p).ownBlock = some x.heap.size) :
  ASt w gB m v u mo ks k0 (updG g 7 p) (updB L 7) y := by
 have h10 := h.no10 hL7
 have u4 := updB_ne (L := L) (i := 7) (k := 4) (by decide)
 have u6 := updB_ne (L := L) (i := 7) (k := 6) (by decide)
 have u10 := updB_ne (L := L) (i := 7) (k := 10) (by decide)
 have hs := h.sz
 refine ⟨?_, ?_, ?_, by have := hg.size; omega, hg.os.trans h.os, hg.tape.trans h.tape, hg.output.trans h.output, ?_, ?_, ?_, ?_⟩
 ·intro _; rw [u4, u6]; exact ⟨hL4, hL6⟩
 ·rw [u10, h10]; intro e; cases e
 ·exact (hg.block _ (by omega) (fun e => by have := hbv _ e.symm; omega)).trans h.bx
 ·rw [u10]; intro k hk a b
  exact (hg.block k (by omega) (a updB_eq)).trans (h.kp k hk (fun e => by rw [hL7] at e; cases e) b)
 ·intro _ e; rw [updB_eq] at e; cases e
 ·intro _; rw [updG_eq]
  refine ⟨ho, ?_⟩
  rcases hat with e | e
  ·exact Or.inl e
  ·exact Or.inr ⟨_, e, hs⟩
 ·rw [u10, h10]; intro e; cases e
theorem ASt.store (h : ASt w gB m v u mo ks k0 g L x) (hL7 : L 7 = true) (hL10 : L 10 = false) (hgB : gB < w.heap.size) (hne : v.ownBlock ≠ some gB) (hhd : w.heap[gB]? = some (.cells #[.int .i64 (mo : Int), v, .map (some m), u] 75)) :
  ASt w gB m v u mo ks k0 g (updB L 10) (x.setCell ⟨gB, 1, none⟩ (sl (ks.length + 1) (g 7))) := by
 have u4 := updB_ne (L := L) (i := 10) (k := 4) (by decide)
 have u6 := updB_ne (L := L) (i := 10) (k := 6) (by decide)
 have u7 := updB_ne (L := L) (i := 10) (k := 7) (by decide)
 have hx : x.heap[gB]? = w.heap[gB]? := h.kp gB hgB (fun _ e => hne e.symm) (fun e => by rw [hL10] at e; cases e)
 have hr := h.r7 hL7
 have hne2 : (sl (ks.length + 1) (g 7)).ownBlock ≠ some gB := by
  rcases hr.2 with e | ⟨b, e, hb⟩
  ·rw [e]; exact hne
  ·rw [e]; intro q; cases q; omega
 refine ⟨by rw [u7, u4, u6]; exact h.d7, fun _ => by rw [u7]; exact hL7, (heap_setCell_other _ _ _ _ (by show w.heap.size ≠ gB; omega)).trans h.bx, by rw [World.size_setCell]; exact h.sz, h.os, h.tape, h.output, ?_, ?_, ?_, ?_⟩
 ·rw [u7]; intro k hk a b
  have hk' := b updB_eq
  exact (heap_setCell_other _ _ _ _ (by show k ≠ gB; exact hk')).trans (h.kp k hk a (fun e => by rw [hL10] at e; cases e))
 ·rw [u7, hL7]; intro _ e; cases e
 ·intro _; exact ⟨row_far hr.1 hne2, hr.2⟩
 ·intro _
  rw [heap_setCell_same _ _ _ _ _ _ (hx.trans hhd)]; rfl
end
theorem bne_small (N mo : Nat) (h : N ≤ mo) : (((N : Int) - 1) == (mo : Int)) = false := by simp; omega
structure AddR (w w' : World) (g m : Nat) (v v' u : Value) (mo : Nat) (ks : List Kd) : Prop where
 hd : w'.heap[g]? = some (.cells #[.int .i64 (mo : Int), v', .map (some m), u] 75)
 row : w'.ownsRow 0 100 2 v' ks.length (ks.flatMap kcs)
 own : v'.ownBlock = v.ownBlock ∨ ∃ b, v'.ownBlock = some b ∧ w.heap.size ≤ b
 os : w'.os = w.os
 tape : w'.tape = w.tape
 output : w'.output = w.output
 size : w.heap.size ≤ w'.heap.size
 block : ∀ k, k < w.heap.size → k ≠ g → some k ≠ v.ownBlock → w'.heap[k]? = w.heap[k]?
theorem nodes_hd {w : World} {g m mo N p : Nat} {u : Value} (h : w.heap[g]? = some (.cells #[.int .i64 (mo : Int), sl (N + 1) p, .map (some m), u] 75)) (hN : N ≤ 100000) :
  Calls Tryz.prog 12 #[.pointer (some ⟨g, 0, none⟩)] w fun e w' => e = .returned (.int .i64 (N : Int)) ∧ w' = w := by
 have c1 : w.cell? ⟨g, 1, none⟩ = some (sl (N + 1) p) := cell_of h 1 rfl
 have e : ((N + 1 : Nat) : Int) - 1 = (N : Int) := by omega
 unfold sl at c1
 clear h
 go_enter Tryz.func12, Tryz.ntmps12
 go_wp2_with fail
 go_ret
 exact ⟨by rw [← e]; rfl, rfl⟩
theorem gadd_full {w : World} {F : Nat → Prop} {g mo : Nat} {ks : List Kd} (h : Gr w F g mo ks) {k0 : Kd} (hroom : ks.length = mo + 1) :
  Rt 73 #[.pointer (some ⟨g, 0, none⟩), kval k0] w (.tuple #[.int .i64 0, .int .i64 81]) := by
 have HN : Hid (∀ wx, Below w.heap.size w wx → Calls Tryz.prog 12 #[.pointer (some ⟨g, 0, none⟩)] wx fun e w' => e = .returned (.int .i64 (mo : Int)) ∧ w' = wx) := fun wx hb => by
  have := nodes_any (h.below hb)
  rw [hroom, show (((mo + 1 : Nat) : Int) - 1) = (mo : Int) by omega] at this
  exact this
 obtain ⟨m, v, u, hx, -⟩ := h
 have c0 := hx.c0
 have hg := hx.lt
 have hz : ((mo : Int) == (mo : Int)) = true := by simp
 clear hx hroom
 obtain ⟨k1, k2⟩ := k0
 unfold kval
 dsimp only
 go_enter Tryz.func73, Tryz.ntmps73
 go_wp2_with fail
 go_quiet ((go_at_call 12; refine Calls.quiet_of_same (HN.out _ (below_drewN (by go_grown) _))))
 go_wp2_with fail
 refine bodyPost_ret (v := .tuple #[.int .i64 0, .int .i64 81]) (by simp [results, Tryz.results73, go_sem]) rfl ?_
 exact ⟨rfl, below_drewN (by go_grown) _⟩
theorem gadd_any {w : World} {g0 m mo : Nat} {v u : Value} {ks : List Kd} (h : Gx w g0 m v u mo ks) {k0 : Kd} (hroom : ks.length ≤ mo) :
  Calls Tryz.prog 73 #[.pointer (some ⟨g0, 0, none⟩), kval k0] w fun e w' => e = .returned (.tuple #[.int .i64 (2 * (ks.length : Int)), .int .i64 0]) ∧ ∃ v', AddR w w' g0 m v v' u mo (ks ++ [k0]) := by
 have hbn := bne_small ks.length mo hroom
 have HN : Hid (∀ wx, Below w.heap.size w wx → Calls Tryz.prog 12 #[.pointer (some ⟨g0, 0, none⟩)] wx fun e w' => e = .returned (.int .i64 ((ks.length : Int) - 1)) ∧ w' = wx) := fun wx hb => nodes_any (F := fun _ => True) ⟨m, v, u, h.below hb, trivial, trivial, (fun _ _ => trivial), (fun _ _ => trivial)⟩
 have HN2 : Hid (∀ wx p, wx.heap[g0]? = some (.cells #[.int .i64 (mo : Int), sl (ks.length + 1) p, .map (some m), u] 75) → Calls Tryz.prog 12 #[.pointer (some ⟨g0, 0, none⟩)] wx fun e w' => e = .returned (.int .i64 (ks.length : Int)) ∧ w' = wx) := fun wx p hb => nodes_hd hb (by have := h.most; omega)
 have HG : Hid _ := h
 have hg := h.lt
 have c0 := h.c0
 have hmost := h.most
 have HBV : Hid (∀ k, v.ownBlock = some k → k < w.heap.size) := fun k hk => (h.row.lt k hk).2
 have HNE : Hid (v.ownBlock ≠ some g0) := h.sep.1
 have HW : Hid (w.ownsRow 0 100 2 v ks.length (ks.flatMap kcs)) := h.row
 have HHD : Hid _ := h.hd
 obtain ⟨ti, ht0, hz0, hz1, hz2⟩ := info_any infoArr
 have HI0 : Hid _ := (⟨ht0, hz0, hz1, hz2⟩ : Tryz.prog.info? 100 = some ti ∧ ti.zero = _ ∧ ti.size = 2 ∧ ti.bytes = 16)
 clear h ht0 hz0 hz1 hz2
 unfold kval
 go_enter Tryz.func73, Tryz.ntmps73
 go_wp2_with fail
 go_quiet ((go_at_call 12; refine Calls.quiet_of_same (HN.out _ (below_drewN (by go_grown) _))))
 go_wp2_with fail
 clear HN hbn c0
 refine wp_named fun a0 ha0 => ?_
 have o0 := old_at ha0 (t := 0) rfl
 have o3 := old_at ha0 (t := 3) rfl
 refine wp_region_lin (S := ASt w g0 m v u mo ks k0) [6, 7] (fun _ => 0) (by kernel_rfl) (by kernel_rfl) (by rw [← ha0]; kernel_rfl) ?_ ?_
 ·exact ⟨(fun e => by cases e), (fun e => by cases e), heap_alloc_new w _, by show w.heap.size + 1 ≤ (w.alloc _).heap.size; simp, rfl, rfl, rfl, (fun k hk _ _ => heap_alloc_old w _ hk), (fun e => by cases e), (fun e => by cases e), (fun e => by cases e)⟩
 refine' LinAll.cons _ ?_ ?_ ?_
 rotate_left 1
 ·intro g L a x hLi haft hS hK; have t0 := (hK.old 0 (by kernel_rfl)).trans o0; refine go_in (wanted_all rfl) ?_; intro K hk; clear haft hK hLi; go_simp; exact hk.out g x (fun _ _ => rfl) (hS.go rfl)
 ·intro i hi; exact Or.inl (fun _ _ _ => rfl)
 refine' LinAll.cons _ ?_ ?_ ?_
 rotate_left 1
 ·intro g L a x hLi haft hS hK; have t0 := (hK.old 0 (by kernel_rfl)).trans o0; refine go_in (wanted_all rfl) ?_; intro K hk; clear haft hK hLi; go_simp; exact hk.out g x (fun _ _ => rfl) (hS.go rfl)
 ·intro i hi; exact Or.inl (fun _ _ _ => rfl)
 refine' LinAll.cons _ ?_ ?_ ?_
 rotate_left 1
 ·intro g L a x hLi haft hS hK; have t14 := hK.nw haft 1 0 14 rfl (by kernel_rfl); (try dsimp only at t14); refine go_in (wanted_all rfl) ?_; intro K hk; clear haft hK hLi; go_simp; exact hk.out g x (fun _ _ => rfl) (hS.go rfl)
 ·intro i hi; exact Or.inl (fun _ _ _ => rfl)
 refine' LinAll.cons _ ?_ ?_ ?_
 rotate_left 1
 ·intro g L a x hLi haft hS hK; have t15 := hK.nw haft 2 0 15 rfl (by kernel_rfl); (try dsimp only at t15); refine go_in (wanted_all rfl) ?_; intro K hk; clear haft hK hLi; go_simp; exact hk.out g x (fun _ _ => rfl) (hS.go rfl)
 ·intro i hi; exact Or.inl (fun _ _ _ => rfl)
 refine' LinAll.cons _ ?_ ?_ ?_
 rotate_left 1
 ·intro g L a x hLi haft hS hK; have t16 := hK.nw haft 3 0 16 rfl (by kernel_rfl); (try dsimp only at t16)
  have h7 : L 7 = false := by
   cases e : L 7
   ·rfl
   ·rw [(hS.d7 e).1] at hLi; cases hLi
  have h10 := hS.no10 h7
  have c1 : x.cell? ⟨g0, 1, none⟩ = some v := cell_of ((hS.kp g0 hg (fun e => by rw [h7] at e; cases e) (fun e => by rw [h10] at e; cases e)).trans HHD.out) 1 rfl
  clear h7 h10
  refine go_in (wanted_all rfl) ?_; intro K hk; clear haft hK hLi; go_simp; exact hk.out g x (fun _ _ => rfl) (hS.go rfl)
 ·intro i hi; exact Or.inl (fun _ _ _ => rfl)
 refine' LinAll.cons _ ?_ ?_ ?_
 rotate_left 1
 ·intro g L a x hLi haft hS hK; have t3 := (hK.old 3 (by kernel_rfl)).trans o3; have c0 : x.cell? ⟨w.heap.size, 0, none⟩ = some (.int .i64 (k0.1 : Int)) := cell_of hS.bx 0 rfl; have c1 : x.cell? ⟨w.heap.size, 1, none⟩ = some (.int .i64 (k0.2 : Int)) := cell_of hS.bx 1 rfl; refine go_in (wanted_all rfl) ?_; intro K hk; clear haft hK hLi; go_simp; exact hk.out g x (fun _ _ => rfl) (hS.go rfl)
 ·intro i hi; exact Or.inl (fun _ _ _ => rfl)
 refine LinAll.cons (fun g => .slice (some ⟨g 6, 0, none⟩) 1 1) ?_ ?_ ?_
 ·intro g L a x hLi haft hS hK; have t18 := hK.nw haft 5 0 18 rfl (by kernel_rfl); (try dsimp only at t18); refine go_in (wanted_all rfl) ?_; intro K hk; clear haft hK; go_simp
  have hq := hk.out (updG g 6 x.heap.size) _ (updG_al (by rfl)) (hS.built hLi)
  dsimp only at hq; rw [updG_eq] at hq; exact hq
 ·intro i hi; simp only [List.mem_cons, List.not_mem_nil, or_false] at hi; rcases hi with rfl | rfl; exact Or.inr (by kernel_rfl); exact Or.inl (fun g g' h => by simp only [h 6 (by decide)])
 refine LinAll.cons (fun g => sl (ks.length + 1) (g 7)) ?_ ?_ ?_
 ·intro g L a x hLi haft hS hK
  have hL4 := waits haft 4 (by kernel_rfl)
  have hL6 := waits haft 6 (by kernel_rfl)
  have t17 := hK.new 4 2 _ 17 _ rfl rfl rfl (by kernel_rfl) hL4
  have t19 := hK.new 6 0 _ 19 _ rfl rfl rfl (by kernel_rfl) hL6
  (try dsimp only at t17 t19)
  have h10 := hS.no10 hLi
  have hrow : x.ownsRow 0 100 2 v ks.length (ks.flatMap kcs) := row_kept HW.out (fun k hk => hS.kp k hk (fun e => by rw [hLi] at e; cases e) (fun e => by rw [h10] at e; cases e))
  have hb6 := hS.s6 hL6 hLi
  refine go_in (wanted_all rfl) ?_
  intro K hk
  refine wp_append_at _ (.tmp 17) (.tmp 19) 72 rfl 0 100 ti _ 2 16 underArrs HI0.out.1 HI0.out.2.1 HI0.out.2.2.1 HI0.out.2.2.2 rfl (by decide) v ks.length _ (eval_tmp t17) hrow ⟨g 6, 0, none⟩ 1 1 (kcs k0) (eval_tmp t19) rfl (fun j u hj => by
   have e : (⟨g 6, 0, none⟩ : Addr).add j = ⟨g 6, j, none⟩ := by simp [Addr.add]; try (intro hq; exact hq.symm)
   rw [e]; exact cell_of hb6 j (by simpa using hj)) (one_kcs k0) (by unfold maxLen; omega) (by omega) (by have := hS.sz; omega) ?_
  intro v' y hown hgrow hat
  obtain ⟨p, rfl⟩ := sl_own hown (by omega)
  have hown' : y.ownsRow 0 100 2 (sl (ks.length + 1) p) (ks.length + 1) ((ks ++ [k0]).flatMap kcs) := by rw [List.flatMap_append]; simpa using hown
  have hq := hk.out (updG g 7 p) y (updG_al (by rfl)) (hS.app hL4 hL6 hLi HBV.out hgrow hown' hat)
  dsimp only at hq; rw [updG_eq] at hq; exact hq
 ·intro i hi; simp only [List.mem_cons, List.not_mem_nil, or_false] at hi; rcases hi with rfl | rfl; exact Or.inl (fun g g' h => by simp only [h 7 (by decide)]); exact Or.inr (by kernel_rfl)
 refine' LinAll.cons _ ?_ ?_ ?_
 rotate_left 1
 ·intro g L a x hLi haft hS hK; have t13 := hK.nw haft 0 7 13 rfl (by kernel_rfl); (try dsimp only at t13); refine go_in (wanted_all rfl) ?_; intro K hk; clear haft hK hLi; go_simp; exact hk.out g x (fun _ _ => rfl) (hS.go rfl)
 ·intro i hi; exact Or.inl (fun _ _ _ => rfl)
 refine' LinAll.cons _ ?_ ?_ ?_
 rotate_left 1
 ·intro g L a x hLi haft hS hK; have t21 := hK.nw haft 8 0 21 rfl (by kernel_rfl); (try dsimp only at t21); refine go_in (wanted_all rfl) ?_; intro K hk; clear haft hK hLi; go_simp; exact hk.out g x (fun _ _ => rfl) (hS.go rfl)
 ·intro i hi; exact Or.inl (fun _ _ _ => rfl)
 refine LinAll.cons (fun _ => undef) ?_ ?_ ?_
 ·intro g L a x hLi haft hS hK
  have hL7 := waits haft 7 (by kernel_rfl)
  have t20 := hK.new 7 2 _ 20 _ rfl rfl rfl (by kernel_rfl) hL7
  have t22 := hK.nw haft 9 0 22 rfl (by kernel_rfl)
  (try dsimp only at t20 t22)
  have hh := (hS.kp g0 hg (fun _ e => HNE.out e.symm) (fun e => by rw [hLi] at e; cases e)).trans HHD.out
  have c1 : x.cell? ⟨g0, 1, none⟩ = some v := cell_of hh 1 rfl
  have f1 : x.frozen? ⟨g0, 1, none⟩ = false := by simp [World.frozen?, hh]
  have hnew := hS.store hL7 hLi hg HNE.out HHD.out
  unfold sl at t20
  refine go_in (wanted_all rfl) ?_
  intro K hk
  clear haft hK hLi hh
  go_simp
  exact hk.out g _ (fun _ _ => rfl) hnew
 ·intro i hi; exact Or.inl (fun _ _ _ => rfl)
 refine LinAll.nil fun g x hS => ?_
 subst ha0
 simp only [Act.put, List.setIfInBounds_toArray, List.set_cons_zero, List.set_cons_succ]
 clear o0 o3
 have HS : Hid _ := hS
 have HX : Hid (x.heap[g0]? = some (.cells #[.int .i64 (mo : Int), sl (ks.length + 1) (g 7), .map (some m), u] 75)) := hS.h10 rfl
 clear hS
 have hL : ks.length ≤ 32768 := by omega
 go_wp2_with fail
 refine (HN2.out x (g 7) HX.out).mono ?_
 rintro e wz ⟨rfl, hw⟩
 rw [hw]
 clear hw wz
 go_wp2_with fail
 refine bodyPost_ret (v := .tuple #[.int .i64 (2 * (ks.length : Int)), .int .i64 0]) (by simp [results, Tryz.results73, go_sem]) rfl ?_
 have hs := HS.out
 have hz := hs.sz
 obtain ⟨r1, r2⟩ := hs.r7 rfl
 refine ⟨rfl, sl (ks.length + 1) (g 7), HX.out, by rw [List.length_append]; exact r1, ?_, hs.os, hs.tape, hs.output, by omega, fun k h1 h2 h3 => hs.kp k h1 (fun _ => h3) (fun _ => h2)⟩
 rcases r2 with e | ⟨b, e, hb⟩
 ·exact Or.inl e
 ·exact Or.inr ⟨b, e, by omega⟩
end Go.Proofs.YtcahhahbcijkiaaGreat.Ag
