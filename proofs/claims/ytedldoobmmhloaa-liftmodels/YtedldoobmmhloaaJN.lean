import Derived.Test.YtedldoobmmhloaaMg26
import Derived.Deep.CutRange
namespace Go.Proofs.Ytedldoobmmhloaa
set_option maxHeartbeats 12800000
set_option maxRecDepth 100000
open Go.RowKit
set_option linter.unusedSimpArgs false
set_option linter.unusedVariables false
theorem signed_any {W n m N : Nat} {op WW lo hi WW' lo' hi' : Int} (hop : (op = 23 ∧ N = sdiv W n m) ∨ (op = 24 ∧ N = srem W n m) ∨ (op = 25 ∧ N = smod W n m)) (hw : Wd WW lo hi W n) (hw' : Wd WW' lo' hi' W m) (w : World) :
  Calls Try.prog 90 #[.int .i64 op, .agg #[.int .i64 WW, .int .u64 lo, .int .u64 hi], .agg #[.int .i64 WW', .int .u64 lo', .int .u64 hi']] w fun e w' => e = .returned (.agg #[.int .i64 W, .int .u64 (LO (N)), .int .u64 (HI (N))]) ∧ Below w.heap.size w w' := by
 obtain ⟨h1, h2, hn, rfl, rfl, rfl⟩ := hw
 obtain ⟨-, -, hn', rfl, rfl, rfl⟩ := hw'
 have hsa := wsign_lt (a := n) hn
 have hsb := wsign_lt (a := m) hn'
 obtain ⟨D, hD⟩ : ∃ x, x = udiv W (wsign W n n) (wsign W m m) := ⟨_, rfl⟩
 obtain ⟨E, hE⟩ : ∃ x, x = urem (wsign W n n) (wsign W m m) := ⟨_, rfl⟩
 have hud : D < 2 ^ W := by rw [hD]; exact udiv_lt hsa
 have hur : E < 2 ^ W := by rw [hE]; exact urem_lt hsa
 have hws : wsign W n E < 2 ^ W := wsign_lt (a := n) hur
 have HDV : Hid (∀ wx, Calls Try.prog 97 #[.agg #[.int .i64 W, .int .u64 (LO (wsign W n n)), .int .u64 (HI (wsign W n n))], .agg #[.int .i64 W, .int .u64 (LO (wsign W m m)), .int .u64 (HI (wsign W m m))]] wx fun e w' => e = .returned (.tuple #[.agg #[.int .i64 W, .int .u64 (LO (D)), .int .u64 (HI (D))], .agg #[.int .i64 W, .int .u64 (LO (E)), .int .u64 (HI (E))]]) ∧ Below wx.heap.size wx w') := fun wx => by rw [hD, hE]; exact divide_full (Wd.mk' h1 h2 hsa) (Wd.mk' h1 h2 hsb) wx
 have HS1 : Hid (∀ wx, Calls Try.prog 98 #[.agg #[.int .i64 W, .int .u64 (LO (n)), .int .u64 (HI (n))]] wx fun e w' => e = .returned (.agg #[.int .i64 W, .int .u64 (LO (wsign W n n)), .int .u64 (HI (wsign W n n))]) ∧ Below wx.heap.size wx w') := fun wx => size_any (Wd.mk' h1 h2 hn) wx
 have HS2 : Hid (∀ wx, Calls Try.prog 98 #[.agg #[.int .i64 W, .int .u64 (LO (m)), .int .u64 (HI (m))]] wx fun e w' => e = .returned (.agg #[.int .i64 W, .int .u64 (LO (wsign W m m)), .int .u64 (HI (wsign W m m))]) ∧ Below wx.heap.size wx w') := fun wx => size_any (Wd.mk' h1 h2 hn') wx
 have HOP : Hid ((op = 23 ∧ N = if n.testBit (W - 1) != m.testBit (W - 1) then neg W D else D) ∨ (op = 24 ∧ N = wsign W n E) ∨ (op = 25 ∧ N = if E ≠ 0 ∧ (n.testBit (W - 1) != m.testBit (W - 1)) = true then (wsign W n E + m) % 2 ^ W else wsign W n E)) := by rw [hD, hE]; exact hop
 clear hop hD hE
 generalize wsign W n n = SA at *
 generalize wsign W m m = SB at *
 go_enter Try.func90, Try.ntmps90
 go_upto_region 1 with fail
 go_cut [7, 8] from 9 to 16 (fun v7 v8 X => ∃ b7 b8 : Nat, v7 = .pointer (some ⟨b7, 0, none⟩) ∧ v8 = .pointer (some ⟨b8, 0, none⟩) ∧ (X.cell? ⟨w.heap.size, 0, none⟩ = some (.int .i64 W) ∧ X.cell? ⟨w.heap.size, 1, none⟩ = some (.int .u64 (LO (n))) ∧ X.cell? ⟨w.heap.size, 2, none⟩ = some (.int .u64 (HI (n))) ∧ X.cell? ⟨w.heap.size + 1, 0, none⟩ = some (.int .i64 W) ∧ X.cell? ⟨w.heap.size + 1, 1, none⟩ = some (.int .u64 (LO (m))) ∧ X.cell? ⟨w.heap.size + 1, 2, none⟩ = some (.int .u64 (HI (m)))) ∧ (X.cell? ⟨w.heap.size + 1 + 1, 0, none⟩ = some (.int .i64 0) ∧ X.cell? ⟨w.heap.size + 1 + 1, 1, none⟩ = some (.int .u64 0) ∧ X.cell? ⟨w.heap.size + 1 + 1, 2, none⟩ = some (.int .u64 0)) ∧ (X.cell? ⟨b7, 0, none⟩ = some (.int .i64 W) ∧ X.cell? ⟨b7, 1, none⟩ = some (.int .u64 (LO (D))) ∧ X.cell? ⟨b7, 2, none⟩ = some (.int .u64 (HI (D))) ∧ X.cell? ⟨b8, 0, none⟩ = some (.int .i64 W) ∧ X.cell? ⟨b8, 1, none⟩ = some (.int .u64 (LO (E))) ∧ X.cell? ⟨b8, 2, none⟩ = some (.int .u64 (HI (E)))) ∧ (∀ o, X.frozen? ⟨w.heap.size + 1 + 1, o, none⟩ = false) ∧ w.heap.size + 3 ≤ b7 ∧ w.heap.size + 3 ≤ b8 ∧ w.heap.size + 3 ≤ X.heap.size ∧ Below w.heap.size w X)
 case first =>
  refine wp_named fun a0 ha0 => ?_
  have o4 := old_at ha0 (t := 4) rfl
  have o5 := old_at ha0 (t := 5) rfl
  refine wp_region_lin (S := SF w _ [(w.heap.size, [.int .i64 W, .int .u64 (LO (n)), .int .u64 (HI (n))]), (w.heap.size + 1, [.int .i64 W, .int .u64 (LO (m)), .int .u64 (HI (m))]), (w.heap.size + 1 + 1, [.int .i64 0, .int .u64 0, .int .u64 0])] [(8, 10, [.int .i64 W, .int .u64 (LO (D)), .int .u64 (HI (D))]), (9, 11, [.int .i64 W, .int .u64 (LO (E)), .int .u64 (HI (E))])] [] [w.heap.size + 1 + 1]) [8, 9] (fun _ => 0) (by kernel_rfl) (by kernel_rfl) (by rw [← ha0]; kernel_rfl) (SF.start (by first | assumption | go_grown) ?_ ?_ ?_ ?_) ?_
  ·intro p hp; simp only [List.mem_cons, List.not_mem_nil, or_false] at hp; rcases hp with rfl | rfl | rfl; all_goals exact ⟨At.three (by simp [go_sem]) (by simp [go_sem]) (by simp [go_sem]), by simp⟩
  ·intro b hb; simp only [List.mem_cons, List.not_mem_nil, or_false] at hb; rcases hb with rfl; (all_goals exact ⟨by first | assumption | (simp; done) | (simp; omega) | omega, by intro o; simp [go_sem]⟩)
  ·intro f hf; cases hf
  ·intro f hf p hp; cases hf
  refine' LinAll.cons _ ?_ ?_ ?_
  rotate_left 1
  ·intro g L a x hLi haft hS hK; have t4 := (hK.old 4 (by kernel_rfl)).trans o4; (try dsimp only at t4); refine go_in (wanted_all rfl) ?_; intro K hk; obtain ⟨c0, c1, c2⟩ := (hS.ss.own _ (.head _)).2.get3; clear haft hK hLi; go_simp; exact hS.go hk rfl rfl
  ·intro i hi; simp only [List.mem_cons, List.not_mem_nil, or_false] at hi; rcases hi with rfl | rfl; (first | exact Or.inl (fun _ _ _ => rfl) | exact Or.inr (by kernel_rfl)); (first | exact Or.inl (fun _ _ _ => rfl) | exact Or.inr (by kernel_rfl))
  refine' LinAll.cons _ ?_ ?_ ?_
  rotate_left 1
  ·intro g L a x hLi haft hS hK; have t10 := hK.nw haft 0 0 10 rfl (by kernel_rfl); (try dsimp only at t10); refine go_in (wanted_all rfl) ?_; intro K hk; clear haft hK hLi; go_simp; refine (HS1.out _).mono ?_; rintro e y ⟨rfl, hb⟩; exact hS.on hk hb rfl rfl
  ·intro i hi; simp only [List.mem_cons, List.not_mem_nil, or_false] at hi; rcases hi with rfl | rfl; (first | exact Or.inl (fun _ _ _ => rfl) | exact Or.inr (by kernel_rfl)); (first | exact Or.inl (fun _ _ _ => rfl) | exact Or.inr (by kernel_rfl))
  refine' LinAll.cons _ ?_ ?_ ?_
  rotate_left 1
  ·intro g L a x hLi haft hS hK; have t5 := (hK.old 5 (by kernel_rfl)).trans o5; (try dsimp only at t5); refine go_in (wanted_all rfl) ?_; intro K hk; obtain ⟨c0, c1, c2⟩ := (hS.ss.own _ (.tail _ (.head _))).2.get3; clear haft hK hLi; go_simp; exact hS.go hk rfl rfl
  ·intro i hi; simp only [List.mem_cons, List.not_mem_nil, or_false] at hi; rcases hi with rfl | rfl; (first | exact Or.inl (fun _ _ _ => rfl) | exact Or.inr (by kernel_rfl)); (first | exact Or.inl (fun _ _ _ => rfl) | exact Or.inr (by kernel_rfl))
  refine' LinAll.cons _ ?_ ?_ ?_
  rotate_left 1
  ·intro g L a x hLi haft hS hK; have t12 := hK.nw haft 2 0 12 rfl (by kernel_rfl); (try dsimp only at t12); refine go_in (wanted_all rfl) ?_; intro K hk; clear haft hK hLi; go_simp; refine (HS2.out _).mono ?_; rintro e y ⟨rfl, hb⟩; exact hS.on hk hb rfl rfl
  ·intro i hi; simp only [List.mem_cons, List.not_mem_nil, or_false] at hi; rcases hi with rfl | rfl; (first | exact Or.inl (fun _ _ _ => rfl) | exact Or.inr (by kernel_rfl)); (first | exact Or.inl (fun _ _ _ => rfl) | exact Or.inr (by kernel_rfl))
  refine' LinAll.cons _ ?_ ?_ ?_
  rotate_left 1
  ·intro g L a x hLi haft hS hK; have t11 := hK.nw haft 1 2 11 rfl (by kernel_rfl); have t13 := hK.nw haft 3 0 13 rfl (by kernel_rfl); (try dsimp only at t11 t13); refine go_in (wanted_all rfl) ?_; intro K hk; clear haft hK hLi; go_simp; refine (HDV.out _).mono ?_; rintro e y ⟨rfl, hb⟩; exact hS.on hk hb rfl rfl
  ·intro i hi; simp only [List.mem_cons, List.not_mem_nil, or_false] at hi; rcases hi with rfl | rfl; (first | exact Or.inl (fun _ _ _ => rfl) | exact Or.inr (by kernel_rfl)); (first | exact Or.inl (fun _ _ _ => rfl) | exact Or.inr (by kernel_rfl))
  refine' LinAll.cons _ ?_ ?_ ?_
  rotate_left 1
  ·intro g L a x hLi haft hS hK; have t14 := hK.nw haft 4 0 14 rfl (by kernel_rfl); (try dsimp only at t14); refine go_in (wanted_all rfl) ?_; intro K hk; clear haft hK hLi; go_simp; exact hS.go hk rfl rfl
  ·intro i hi; simp only [List.mem_cons, List.not_mem_nil, or_false] at hi; rcases hi with rfl | rfl; (first | exact Or.inl (fun _ _ _ => rfl) | exact Or.inr (by kernel_rfl)); (first | exact Or.inl (fun _ _ _ => rfl) | exact Or.inr (by kernel_rfl))
  refine' LinAll.cons _ ?_ ?_ ?_
  rotate_left 1
  ·intro g L a x hLi haft hS hK; have t9 := hK.nw haft 5 0 9 rfl (by kernel_rfl); (try dsimp only at t9); refine go_in (wanted_all rfl) ?_; intro K hk; clear haft hK hLi; go_simp; exact hS.go hk rfl rfl
  ·intro i hi; simp only [List.mem_cons, List.not_mem_nil, or_false] at hi; rcases hi with rfl | rfl; (first | exact Or.inl (fun _ _ _ => rfl) | exact Or.inr (by kernel_rfl)); (first | exact Or.inl (fun _ _ _ => rfl) | exact Or.inr (by kernel_rfl))
  refine' LinAll.cons _ ?_ ?_ ?_
  rotate_left 1
  ·intro g L a x hLi haft hS hK; have t9 := hK.nw haft 5 1 9 rfl (by kernel_rfl); (try dsimp only at t9); refine go_in (wanted_all rfl) ?_; intro K hk; clear haft hK hLi; go_simp; exact hS.go hk rfl rfl
  ·intro i hi; simp only [List.mem_cons, List.not_mem_nil, or_false] at hi; rcases hi with rfl | rfl; (first | exact Or.inl (fun _ _ _ => rfl) | exact Or.inr (by kernel_rfl)); (first | exact Or.inl (fun _ _ _ => rfl) | exact Or.inr (by kernel_rfl))
  refine LinAll.cons (fun g => .pointer (some ⟨g 8, 0, none⟩)) ?_ ?_ ?_
  ·intro g L a x hLi haft hS hK; refine go_in (wanted_all rfl) ?_; intro K hk; clear haft hK; go_simp; have hq := hk.out (updG g 8 x.heap.size) (x.alloc (.cells #[.int .i64 0, .int .u64 0, .int .u64 0] 25)) (updG_al (by rfl)) (hS.alloc hLi (by rfl) (by rfl)); dsimp only at hq; rw [updG_eq] at hq; exact hq
  ·intro i hi; simp only [List.mem_cons, List.not_mem_nil, or_false] at hi; rcases hi with rfl | rfl; exact Or.inr (by kernel_rfl); exact Or.inl (fun g g' h => by simp only [h 8 (by decide)])
  refine LinAll.cons (fun g => .pointer (some ⟨g 9, 0, none⟩)) ?_ ?_ ?_
  ·intro g L a x hLi haft hS hK; refine go_in (wanted_all rfl) ?_; intro K hk; clear haft hK; go_simp; have hq := hk.out (updG g 9 x.heap.size) (x.alloc (.cells #[.int .i64 0, .int .u64 0, .int .u64 0] 25)) (updG_al (by rfl)) (hS.alloc hLi (by rfl) (by rfl)); dsimp only at hq; rw [updG_eq] at hq; exact hq
  ·intro i hi; simp only [List.mem_cons, List.not_mem_nil, or_false] at hi; rcases hi with rfl | rfl; exact Or.inl (fun g g' h => by simp only [h 9 (by decide)]); exact Or.inr (by kernel_rfl)
  refine LinAll.cons (fun _ => undef) ?_ ?_ ?_
  ·intro g L a x hLi haft hS hK; have t7 := hK.nw haft 8 1 7 rfl (by kernel_rfl); have t15 := hK.nw haft 6 3 15 rfl (by kernel_rfl); (try dsimp only at t7 t15); refine go_in (wanted_all rfl) ?_; intro K hk; have hL8 := waits haft 8 (by kernel_rfl); obtain ⟨m1, m2, m3, m4⟩ := hS.ss.made _ (.head _) hL8; dsimp only [List.length_cons, List.length_nil] at m3 m4; obtain ⟨u0, c0⟩ := Option.isSome_iff_exists.1 (m4 0 (by decide)); obtain ⟨u1, c1⟩ := Option.isSome_iff_exists.1 (m4 1 (by decide)); obtain ⟨u2, c2⟩ := Option.isSome_iff_exists.1 (m4 2 (by decide)); clear m1 m2 m4; clear haft hK hLi; go_simp; refine hk.out g _ (fun _ _ => rfl) (hS.store hL8 (.head _) rfl ?_ rfl); intro q hq e; simp only [List.mem_cons, List.not_mem_nil, or_false] at hq; rcases hq with rfl | rfl <;> first | rfl | exact absurd e (by simp)
  ·intro i hi; simp only [List.mem_cons, List.not_mem_nil, or_false] at hi; rcases hi with rfl | rfl; (first | exact Or.inl (fun _ _ _ => rfl) | exact Or.inr (by kernel_rfl)); (first | exact Or.inl (fun _ _ _ => rfl) | exact Or.inr (by kernel_rfl))
  refine LinAll.cons (fun _ => undef) ?_ ?_ ?_
  ·intro g L a x hLi haft hS hK; have t8 := hK.nw haft 9 1 8 rfl (by kernel_rfl); have t16 := hK.nw haft 7 3 16 rfl (by kernel_rfl); (try dsimp only at t8 t16); refine go_in (wanted_all rfl) ?_; intro K hk; have hL9 := waits haft 9 (by kernel_rfl); obtain ⟨m1, m2, m3, m4⟩ := hS.ss.made _ (.tail _ (.head _)) hL9; dsimp only [List.length_cons, List.length_nil] at m3 m4; obtain ⟨u0, c0⟩ := Option.isSome_iff_exists.1 (m4 0 (by decide)); obtain ⟨u1, c1⟩ := Option.isSome_iff_exists.1 (m4 1 (by decide)); obtain ⟨u2, c2⟩ := Option.isSome_iff_exists.1 (m4 2 (by decide)); clear m1 m2 m4; clear haft hK hLi; go_simp; refine hk.out g _ (fun _ _ => rfl) (hS.store hL9 (.tail _ (.head _)) rfl ?_ rfl); intro q hq e; simp only [List.mem_cons, List.not_mem_nil, or_false] at hq; rcases hq with rfl | rfl <;> first | rfl | exact absurd e (by simp)
  ·intro i hi; simp only [List.mem_cons, List.not_mem_nil, or_false] at hi; rcases hi with rfl | rfl; (first | exact Or.inl (fun _ _ _ => rfl) | exact Or.inr (by kernel_rfl)); (first | exact Or.inl (fun _ _ _ => rfl) | exact Or.inr (by kernel_rfl))
  refine LinAll.nil fun g x hS => ?_
  subst ha0
  simp only [Act.put, List.setIfInBounds_toArray, List.set_cons_zero, List.set_cons_succ]
  clear o4 o5
  have KL := And.intro (hS.ss.own _ (.head _)).2.get3 (And.intro (hS.ss.own _ (.tail _ (.head _))).2.get3 (And.intro (hS.ss.own _ (.tail _ (.tail _ (.head _)))).2.get3 (And.intro (hS.ss.laid _ (.head _) rfl).2.get3 (And.intro (hS.ss.laid _ (.tail _ (.head _)) rfl).2.get3 (hS.soft _ (.head _)).2))))
  have KP := And.intro (hS.ss.made _ (.head _) rfl).1 (hS.ss.made _ (.tail _ (.head _)) rfl).1
  have hBq := hS.ss.below
  have hBs := hBq.size
  clear hS
  have hzz : w.heap.size + 3 ≤ x.heap.size := by have := KP.1; have := World.block_lt_of_cell? _ _ (KL.2.2.2.1.1); simp at *; omega
  go_wp2_with fail
  go_meet
  case rel =>
   refine ⟨_, _, rfl, rfl, ⟨?_, ?_, ?_, ?_, ?_, ?_⟩, ⟨?_, ?_, ?_⟩, ⟨?_, ?_, ?_, ?_, ?_, ?_⟩, ?_, ?_, ?_, ?_, hBq⟩
   all_goals first | (simp [KL]; done) | exact hzz | (have := KP.1; have := KP.2; simp at *; omega)
 case rest =>
  obtain ⟨b7, b8, rfl, rfl, k0, k1, k2, k3, n7, n8, hz3, hbl⟩ := hcut
  have KF0 := And.intro k0 (And.intro k1 (And.intro k2 k3))
  have nr7 : ¬ b7 = w.heap.size + 1 + 1 := by omega
  have nr8 : ¬ b8 = w.heap.size + 1 + 1 := by omega
  have nrr : w.heap.size + 1 + 1 < wc.heap.size := by omega
  clear k0 k1 k2 k3 hsa hsb HS1 HS2 HDV
  have hqn := neq_w
  have hbs := hbl.size
  have HI1 : Hid (∀ wx, Calls Try.prog 84 #[.agg #[.int .i64 W, .int .u64 (LO (n)), .int .u64 (HI (n))]] wx fun e w' => e = .returned (.bool (n.testBit (W - 1))) ∧ Below wx.heap.size wx w') := fun wx => isBelowZero_any (Wd.mk' h1 h2 hn) wx
  have HI2 : Hid (∀ wx, Calls Try.prog 84 #[.agg #[.int .i64 W, .int .u64 (LO (m)), .int .u64 (HI (m))]] wx fun e w' => e = .returned (.bool (m.testBit (W - 1))) ∧ Below wx.heap.size wx w') := fun wx => isBelowZero_any (Wd.mk' h1 h2 hn') wx
  have HCZ : Hid (∀ wx, Calls Try.prog 34 #[.int .i64 W, .int .u64 0, .int .u64 0] wx fun e w' => e = .returned (.agg #[.int .i64 W, .int .u64 (LO (0)), .int .u64 (HI (0))]) ∧ Below wx.heap.size wx w') := fun wx => cut_any (m := 0) (r := 0) h1 h2 (by decide) (Nat.zero_mod _) rfl lo0 hi0 wx
  have HWS : Hid (∀ wx, Calls Try.prog 99 #[.agg #[.int .i64 W, .int .u64 (LO (n)), .int .u64 (HI (n))], .agg #[.int .i64 W, .int .u64 (LO (E)), .int .u64 (HI (E))]] wx fun e w' => e = .returned (.agg #[.int .i64 W, .int .u64 (LO (wsign W n E)), .int .u64 (HI (wsign W n E))]) ∧ Below wx.heap.size wx w') := fun wx => withSignOf_any (Wd.mk' h1 h2 hn) (Wd.mk' h1 h2 hur) wx
  have HAD : Hid (∀ wx, Calls Try.prog 95 #[.agg #[.int .i64 W, .int .u64 (LO (wsign W n E)), .int .u64 (HI (wsign W n E))], .agg #[.int .i64 W, .int .u64 (LO (m)), .int .u64 (HI (m))]] wx fun e w' => e = .returned (.agg #[.int .i64 W, .int .u64 (LO ((wsign W n E + m) % 2 ^ W)), .int .u64 (HI ((wsign W n E + m) % 2 ^ W))]) ∧ Below wx.heap.size wx w') := fun wx => add_any (Wd.mk' h1 h2 hws) (Wd.mk' h1 h2 hn') wx
  have HNG : Hid (∀ wx, Calls Try.prog 81 #[.agg #[.int .i64 W, .int .u64 (LO (D)), .int .u64 (HI (D))]] wx fun e w' => e = .returned (.agg #[.int .i64 W, .int .u64 (LO (neg W D)), .int .u64 (HI (neg W D))]) ∧ Below wx.heap.size wx w') := fun wx => negate_any (Wd.mk' h1 h2 hud) wx
  obtain ⟨bA, hA⟩ : ∃ b, n.testBit (W - 1) = b := ⟨_, rfl⟩
  obtain ⟨bB, hB⟩ : ∃ b, m.testBit (W - 1) = b := ⟨_, rfl⟩
  rw [hA] at HI1
  rw [hB] at HI2
  have HOP2 := HOP.out
  rw [hA, hB] at HOP2
  clear HOP hA hB
  rcases HOP2 with ⟨rfl, hN⟩ | ⟨rfl, hN⟩ | ⟨rfl, hN⟩
  ·cases bA <;> cases bB
   ·have HN : Hid (N = D) := by unfold Hid; rw [hN]; simp
    clear hN
    go_upto_region 6 with fail
    refine wp_named fun a0 ha0 => ?_
    have o4 := old_at ha0 (t := 4) rfl
    have o5 := old_at ha0 (t := 5) rfl
    refine wp_region_lin (S := SF w wc.heap.size [(w.heap.size, [.int .i64 W, .int .u64 (LO (n)), .int .u64 (HI (n))]), (w.heap.size + 1, [.int .i64 W, .int .u64 (LO (m)), .int .u64 (HI (m))]), (w.heap.size + 1 + 1, [.int .i64 0, .int .u64 0, .int .u64 0]), (b7, [.int .i64 W, .int .u64 (LO (D)), .int .u64 (HI (D))]), (b8, [.int .i64 W, .int .u64 (LO (E)), .int .u64 (HI (E))])] [] [] [w.heap.size + 1 + 1]) [] (fun _ => 0) (by kernel_rfl) (by kernel_rfl) (by rw [← ha0]; kernel_rfl) (SF.start (by first | assumption | go_grown) ?_ ?_ ?_ ?_) ?_
    ·intro p hp; simp only [List.mem_cons, List.not_mem_nil, or_false] at hp; rcases hp with rfl | rfl | rfl | rfl | rfl; all_goals exact ⟨At.three (by simp [KF0]) (by simp [KF0]) (by simp [KF0]), by simp⟩
    ·intro b hb; simp only [List.mem_cons, List.not_mem_nil, or_false] at hb; rcases hb with rfl; (all_goals exact ⟨by first | assumption | (simp; done) | (simp; omega) | omega, by intro o; simp [KF0]⟩)
    ·intro f hf; cases hf
    ·intro f hf p hp; cases hf
    apply LinAll.cons0
    ·intro g L a x hLi haft hS hK; have t4 := (hK.old 4 (by kernel_rfl)).trans o4; (try dsimp only at t4); refine go_in (wanted_all rfl) ?_; intro K hk; obtain ⟨c0, c1, c2⟩ := (hS.ss.own _ (.head _)).2.get3; clear haft hK hLi; go_simp; exact hS.go hk rfl rfl
    apply LinAll.cons0
    ·intro g L a x hLi haft hS hK; have t24 := hK.nw haft 0 0 24 rfl (by kernel_rfl); (try dsimp only at t24); refine go_in (wanted_all rfl) ?_; intro K hk; clear haft hK hLi; go_simp; refine (HI1.out _).mono ?_; rintro e y ⟨rfl, hb⟩; exact hS.on hk hb rfl rfl
    apply LinAll.cons0
    ·intro g L a x hLi haft hS hK; have t5 := (hK.old 5 (by kernel_rfl)).trans o5; (try dsimp only at t5); refine go_in (wanted_all rfl) ?_; intro K hk; obtain ⟨c0, c1, c2⟩ := (hS.ss.own _ (.tail _ (.head _))).2.get3; clear haft hK hLi; go_simp; exact hS.go hk rfl rfl
    apply LinAll.cons0
    ·intro g L a x hLi haft hS hK; have t26 := hK.nw haft 2 0 26 rfl (by kernel_rfl); (try dsimp only at t26); refine go_in (wanted_all rfl) ?_; intro K hk; clear haft hK hLi; go_simp; refine (HI2.out _).mono ?_; rintro e y ⟨rfl, hb⟩; exact hS.on hk hb rfl rfl
    apply LinAll.cons0
    ·intro g L a x hLi haft hS hK; have t25 := hK.nw haft 1 2 25 rfl (by kernel_rfl); have t27 := hK.nw haft 3 0 27 rfl (by kernel_rfl); (try dsimp only at t25 t27); refine go_in (wanted_all rfl) ?_; intro K hk; clear haft hK hLi; go_simp; exact hS.go hk rfl rfl
    refine LinAll.nil fun g x hS => ?_
    subst ha0
    simp only [Act.put, List.setIfInBounds_toArray, List.set_cons_zero, List.set_cons_succ]
    clear o4 o5
    have KL := And.intro (hS.ss.own _ (.head _)).2.get3 (And.intro (hS.ss.own _ (.tail _ (.head _))).2.get3 (And.intro (hS.ss.own _ (.tail _ (.tail _ (.head _)))).2.get3 (And.intro (hS.ss.own _ (.tail _ (.tail _ (.tail _ (.head _))))).2.get3 (And.intro (hS.ss.own _ (.tail _ (.tail _ (.tail _ (.tail _ (.head _)))))).2.get3 (hS.soft _ (.head _)).2))))
    have hBq := hS.ss.below
    have hBs := hBq.size
    clear hS
    go_wp2_with fail
    refine bodyPost_ret (v := .agg #[.int .i64 W, .int .u64 (LO (D)), .int .u64 (HI (D))]) (by simp [results, Try.results90, go_sem, KL]) rfl ?_
    exact ⟨by rw [HN.out], by go_grown⟩
   ·have HN : Hid (N = neg W D) := by unfold Hid; rw [hN]; simp
    clear hN
    go_upto_region 6 with fail
    refine wp_named fun a0 ha0 => ?_
    have o4 := old_at ha0 (t := 4) rfl
    have o5 := old_at ha0 (t := 5) rfl
    refine wp_region_lin (S := SF w wc.heap.size [(w.heap.size, [.int .i64 W, .int .u64 (LO (n)), .int .u64 (HI (n))]), (w.heap.size + 1, [.int .i64 W, .int .u64 (LO (m)), .int .u64 (HI (m))]), (w.heap.size + 1 + 1, [.int .i64 0, .int .u64 0, .int .u64 0]), (b7, [.int .i64 W, .int .u64 (LO (D)), .int .u64 (HI (D))]), (b8, [.int .i64 W, .int .u64 (LO (E)), .int .u64 (HI (E))])] [] [] [w.heap.size + 1 + 1]) [] (fun _ => 0) (by kernel_rfl) (by kernel_rfl) (by rw [← ha0]; kernel_rfl) (SF.start (by first | assumption | go_grown) ?_ ?_ ?_ ?_) ?_
    ·intro p hp; simp only [List.mem_cons, List.not_mem_nil, or_false] at hp; rcases hp with rfl | rfl | rfl | rfl | rfl; all_goals exact ⟨At.three (by simp [KF0]) (by simp [KF0]) (by simp [KF0]), by simp⟩
    ·intro b hb; simp only [List.mem_cons, List.not_mem_nil, or_false] at hb; rcases hb with rfl; (all_goals exact ⟨by first | assumption | (simp; done) | (simp; omega) | omega, by intro o; simp [KF0]⟩)
    ·intro f hf; cases hf
    ·intro f hf p hp; cases hf
    apply LinAll.cons0
    ·intro g L a x hLi haft hS hK; have t4 := (hK.old 4 (by kernel_rfl)).trans o4; (try dsimp only at t4); refine go_in (wanted_all rfl) ?_; intro K hk; obtain ⟨c0, c1, c2⟩ := (hS.ss.own _ (.head _)).2.get3; clear haft hK hLi; go_simp; exact hS.go hk rfl rfl
    apply LinAll.cons0
    ·intro g L a x hLi haft hS hK; have t24 := hK.nw haft 0 0 24 rfl (by kernel_rfl); (try dsimp only at t24); refine go_in (wanted_all rfl) ?_; intro K hk; clear haft hK hLi; go_simp; refine (HI1.out _).mono ?_; rintro e y ⟨rfl, hb⟩; exact hS.on hk hb rfl rfl
    apply LinAll.cons0
    ·intro g L a x hLi haft hS hK; have t5 := (hK.old 5 (by kernel_rfl)).trans o5; (try dsimp only at t5); refine go_in (wanted_all rfl) ?_; intro K hk; obtain ⟨c0, c1, c2⟩ := (hS.ss.own _ (.tail _ (.head _))).2.get3; clear haft hK hLi; go_simp; exact hS.go hk rfl rfl
    apply LinAll.cons0
    ·intro g L a x hLi haft hS hK; have t26 := hK.nw haft 2 0 26 rfl (by kernel_rfl); (try dsimp only at t26); refine go_in (wanted_all rfl) ?_; intro K hk; clear haft hK hLi; go_simp; refine (HI2.out _).mono ?_; rintro e y ⟨rfl, hb⟩; exact hS.on hk hb rfl rfl
    apply LinAll.cons0
    ·intro g L a x hLi haft hS hK; have t25 := hK.nw haft 1 2 25 rfl (by kernel_rfl); have t27 := hK.nw haft 3 0 27 rfl (by kernel_rfl); (try dsimp only at t25 t27); refine go_in (wanted_all rfl) ?_; intro K hk; clear haft hK hLi; go_simp; exact hS.go hk rfl rfl
    refine LinAll.nil fun g x hS => ?_
    subst ha0
    simp only [Act.put, List.setIfInBounds_toArray, List.set_cons_zero, List.set_cons_succ]
    clear o4 o5
    have KL := And.intro (hS.ss.own _ (.head _)).2.get3 (And.intro (hS.ss.own _ (.tail _ (.head _))).2.get3 (And.intro (hS.ss.own _ (.tail _ (.tail _ (.head _)))).2.get3 (And.intro (hS.ss.own _ (.tail _ (.tail _ (.tail _ (.head _))))).2.get3 (And.intro (hS.ss.own _ (.tail _ (.tail _ (.tail _ (.tail _ (.head _)))))).2.get3 (hS.soft _ (.head _)).2))))
    have hBq := hS.ss.below
    have hBs := hBq.size
    clear hS
    go_wp2_with fail
    refine (HNG.out _).mono ?_
    rintro e w1 ⟨rfl, hb1⟩
    have hb1' := below_step (w := w) (by go_grown) hb1
    have hs1 := hb1'.size
    have KF1 : W3 w1 w.heap.size W n <| W3 w1 (w.heap.size + 1) W m <| T3 w1 (w.heap.size + 1 + 1) (.int .i64 0) (.int .u64 0) (.int .u64 0) <| F3 w1 (w.heap.size + 1 + 1) <| W3 w1 b7 W D <| W3 w1 b8 W E <| True := (by refine k3 hb1 ?_ ?_ ?_ <| k3 hb1 ?_ ?_ ?_ <| k3 hb1 ?_ ?_ ?_ <| f3 hb1 ?_ ?_ <| k3 hb1 ?_ ?_ ?_ <| k3 hb1 ?_ ?_ ?_ <| trivial <;> (first | (simp [go_sem]; done) | (simp [go_sem, KL]; done) | (simp [go_sem, KL, World.cell?_alloc_some, frozen?_alloc_cells]; done))); have KF1z0 := zT KF1; have KF1z1 := zT KF1.2.2.2; have KF1z2 := zT KF1.2.2.2.2.2.2; have KF1z3 := zT KF1.2.2.2.2.2.2.2.2.2.2; have KF1z4 := zT KF1.2.2.2.2.2.2.2.2.2.2.2.2.2
    clear hb1 KL
    go_wp2_with fail
    refine bodyPost_ret (v := .agg #[.int .i64 W, .int .u64 (LO (neg W D)), .int .u64 (HI (neg W D))]) (by simp [results, Try.results90, go_sem, KF1]) rfl ?_
    exact ⟨by rw [HN.out], by go_grown⟩
   ·have HN : Hid (N = neg W D) := by unfold Hid; rw [hN]; simp
    clear hN
    go_upto_region 6 with fail
    refine wp_named fun a0 ha0 => ?_
    have o4 := old_at ha0 (t := 4) rfl
    have o5 := old_at ha0 (t := 5) rfl
    refine wp_region_lin (S := SF w wc.heap.size [(w.heap.size, [.int .i64 W, .int .u64 (LO (n)), .int .u64 (HI (n))]), (w.heap.size + 1, [.int .i64 W, .int .u64 (LO (m)), .int .u64 (HI (m))]), (w.heap.size + 1 + 1, [.int .i64 0, .int .u64 0, .int .u64 0]), (b7, [.int .i64 W, .int .u64 (LO (D)), .int .u64 (HI (D))]), (b8, [.int .i64 W, .int .u64 (LO (E)), .int .u64 (HI (E))])] [] [] [w.heap.size + 1 + 1]) [] (fun _ => 0) (by kernel_rfl) (by kernel_rfl) (by rw [← ha0]; kernel_rfl) (SF.start (by first | assumption | go_grown) ?_ ?_ ?_ ?_) ?_
    ·intro p hp; simp only [List.mem_cons, List.not_mem_nil, or_false] at hp; rcases hp with rfl | rfl | rfl | rfl | rfl; all_goals exact ⟨At.three (by simp [KF0]) (by simp [KF0]) (by simp [KF0]), by simp⟩
    ·intro b hb; simp only [List.mem_cons, List.not_mem_nil, or_false] at hb; rcases hb with rfl; (all_goals exact ⟨by first | assumption | (simp; done) | (simp; omega) | omega, by intro o; simp [KF0]⟩)
    ·intro f hf; cases hf
    ·intro f hf p hp; cases hf
    apply LinAll.cons0
    ·intro g L a x hLi haft hS hK; have t4 := (hK.old 4 (by kernel_rfl)).trans o4; (try dsimp only at t4); refine go_in (wanted_all rfl) ?_; intro K hk; obtain ⟨c0, c1, c2⟩ := (hS.ss.own _ (.head _)).2.get3; clear haft hK hLi; go_simp; exact hS.go hk rfl rfl
    apply LinAll.cons0
    ·intro g L a x hLi haft hS hK; have t24 := hK.nw haft 0 0 24 rfl (by kernel_rfl); (try dsimp only at t24); refine go_in (wanted_all rfl) ?_; intro K hk; clear haft hK hLi; go_simp; refine (HI1.out _).mono ?_; rintro e y ⟨rfl, hb⟩; exact hS.on hk hb rfl rfl
    apply LinAll.cons0
    ·intro g L a x hLi haft hS hK; have t5 := (hK.old 5 (by kernel_rfl)).trans o5; (try dsimp only at t5); refine go_in (wanted_all rfl) ?_; intro K hk; obtain ⟨c0, c1, c2⟩ := (hS.ss.own _ (.tail _ (.head _))).2.get3; clear haft hK hLi; go_simp; exact hS.go hk rfl rfl
    apply LinAll.cons0
    ·intro g L a x hLi haft hS hK; have t26 := hK.nw haft 2 0 26 rfl (by kernel_rfl); (try dsimp only at t26); refine go_in (wanted_all rfl) ?_; intro K hk; clear haft hK hLi; go_simp; refine (HI2.out _).mono ?_; rintro e y ⟨rfl, hb⟩; exact hS.on hk hb rfl rfl
    apply LinAll.cons0
    ·intro g L a x hLi haft hS hK; have t25 := hK.nw haft 1 2 25 rfl (by kernel_rfl); have t27 := hK.nw haft 3 0 27 rfl (by kernel_rfl); (try dsimp only at t25 t27); refine go_in (wanted_all rfl) ?_; intro K hk; clear haft hK hLi; go_simp; exact hS.go hk rfl rfl
    refine LinAll.nil fun g x hS => ?_
    subst ha0
    simp only [Act.put, List.setIfInBounds_toArray, List.set_cons_zero, List.set_cons_succ]
    clear o4 o5
    have KL := And.intro (hS.ss.own _ (.head _)).2.get3 (And.intro (hS.ss.own _ (.tail _ (.head _))).2.get3 (And.intro (hS.ss.own _ (.tail _ (.tail _ (.head _)))).2.get3 (And.intro (hS.ss.own _ (.tail _ (.tail _ (.tail _ (.head _))))).2.get3 (And.intro (hS.ss.own _ (.tail _ (.tail _ (.tail _ (.tail _ (.head _)))))).2.get3 (hS.soft _ (.head _)).2))))
    have hBq := hS.ss.below
    have hBs := hBq.size
    clear hS
    go_wp2_with fail
    refine (HNG.out _).mono ?_
    rintro e w2 ⟨rfl, hb2⟩
    have hb2' := below_step (w := w) (by go_grown) hb2
    have hs2 := hb2'.size
    have KF2 : W3 w2 w.heap.size W n <| W3 w2 (w.heap.size + 1) W m <| T3 w2 (w.heap.size + 1 + 1) (.int .i64 0) (.int .u64 0) (.int .u64 0) <| F3 w2 (w.heap.size + 1 + 1) <| W3 w2 b7 W D <| W3 w2 b8 W E <| True := (by refine k3 hb2 ?_ ?_ ?_ <| k3 hb2 ?_ ?_ ?_ <| k3 hb2 ?_ ?_ ?_ <| f3 hb2 ?_ ?_ <| k3 hb2 ?_ ?_ ?_ <| k3 hb2 ?_ ?_ ?_ <| trivial <;> (first | (simp [go_sem]; done) | (simp [go_sem, KL]; done) | (simp [go_sem, KL, World.cell?_alloc_some, frozen?_alloc_cells]; done))); have KF2z0 := zT KF2; have KF2z1 := zT KF2.2.2.2; have KF2z2 := zT KF2.2.2.2.2.2.2; have KF2z3 := zT KF2.2.2.2.2.2.2.2.2.2.2; have KF2z4 := zT KF2.2.2.2.2.2.2.2.2.2.2.2.2.2
    clear hb2 KL
    go_wp2_with fail
    refine bodyPost_ret (v := .agg #[.int .i64 W, .int .u64 (LO (neg W D)), .int .u64 (HI (neg W D))]) (by simp [results, Try.results90, go_sem, KF2]) rfl ?_
    exact ⟨by rw [HN.out], by go_grown⟩
   ·have HN : Hid (N = D) := by unfold Hid; rw [hN]; simp
    clear hN
    go_upto_region 6 with fail
    refine wp_named fun a0 ha0 => ?_
    have o4 := old_at ha0 (t := 4) rfl
    have o5 := old_at ha0 (t := 5) rfl
    refine wp_region_lin (S := SF w wc.heap.size [(w.heap.size, [.int .i64 W, .int .u64 (LO (n)), .int .u64 (HI (n))]), (w.heap.size + 1, [.int .i64 W, .int .u64 (LO (m)), .int .u64 (HI (m))]), (w.heap.size + 1 + 1, [.int .i64 0, .int .u64 0, .int .u64 0]), (b7, [.int .i64 W, .int .u64 (LO (D)), .int .u64 (HI (D))]), (b8, [.int .i64 W, .int .u64 (LO (E)), .int .u64 (HI (E))])] [] [] [w.heap.size + 1 + 1]) [] (fun _ => 0) (by kernel_rfl) (by kernel_rfl) (by rw [← ha0]; kernel_rfl) (SF.start (by first | assumption | go_grown) ?_ ?_ ?_ ?_) ?_
    ·intro p hp; simp only [List.mem_cons, List.not_mem_nil, or_false] at hp; rcases hp with rfl | rfl | rfl | rfl | rfl; all_goals exact ⟨At.three (by simp [KF0]) (by simp [KF0]) (by simp [KF0]), by simp⟩
    ·intro b hb; simp only [List.mem_cons, List.not_mem_nil, or_false] at hb; rcases hb with rfl; (all_goals exact ⟨by first | assumption | (simp; done) | (simp; omega) | omega, by intro o; simp [KF0]⟩)
    ·intro f hf; cases hf
    ·intro f hf p hp; cases hf
    apply LinAll.cons0
    ·intro g L a x hLi haft hS hK; have t4 := (hK.old 4 (by kernel_rfl)).trans o4; (try dsimp only at t4); refine go_in (wanted_all rfl) ?_; intro K hk; obtain ⟨c0, c1, c2⟩ := (hS.ss.own _ (.head _)).2.get3; clear haft hK hLi; go_simp; exact hS.go hk rfl rfl
    apply LinAll.cons0
    ·intro g L a x hLi haft hS hK; have t24 := hK.nw haft 0 0 24 rfl (by kernel_rfl); (try dsimp only at t24); refine go_in (wanted_all rfl) ?_; intro K hk; clear haft hK hLi; go_simp; refine (HI1.out _).mono ?_; rintro e y ⟨rfl, hb⟩; exact hS.on hk hb rfl rfl
    apply LinAll.cons0
    ·intro g L a x hLi haft hS hK; have t5 := (hK.old 5 (by kernel_rfl)).trans o5; (try dsimp only at t5); refine go_in (wanted_all rfl) ?_; intro K hk; obtain ⟨c0, c1, c2⟩ := (hS.ss.own _ (.tail _ (.head _))).2.get3; clear haft hK hLi; go_simp; exact hS.go hk rfl rfl
    apply LinAll.cons0
    ·intro g L a x hLi haft hS hK; have t26 := hK.nw haft 2 0 26 rfl (by kernel_rfl); (try dsimp only at t26); refine go_in (wanted_all rfl) ?_; intro K hk; clear haft hK hLi; go_simp; refine (HI2.out _).mono ?_; rintro e y ⟨rfl, hb⟩; exact hS.on hk hb rfl rfl
    apply LinAll.cons0
    ·intro g L a x hLi haft hS hK; have t25 := hK.nw haft 1 2 25 rfl (by kernel_rfl); have t27 := hK.nw haft 3 0 27 rfl (by kernel_rfl); (try dsimp only at t25 t27); refine go_in (wanted_all rfl) ?_; intro K hk; clear haft hK hLi; go_simp; exact hS.go hk rfl rfl
    refine LinAll.nil fun g x hS => ?_
    subst ha0
    simp only [Act.put, List.setIfInBounds_toArray, List.set_cons_zero, List.set_cons_succ]
    clear o4 o5
    have KL := And.intro (hS.ss.own _ (.head _)).2.get3 (And.intro (hS.ss.own _ (.tail _ (.head _))).2.get3 (And.intro (hS.ss.own _ (.tail _ (.tail _ (.head _)))).2.get3 (And.intro (hS.ss.own _ (.tail _ (.tail _ (.tail _ (.head _))))).2.get3 (And.intro (hS.ss.own _ (.tail _ (.tail _ (.tail _ (.tail _ (.head _)))))).2.get3 (hS.soft _ (.head _)).2))))
    have hBq := hS.ss.below
    have hBs := hBq.size
    clear hS
    go_wp2_with fail
    refine bodyPost_ret (v := .agg #[.int .i64 W, .int .u64 (LO (D)), .int .u64 (HI (D))]) (by simp [results, Try.results90, go_sem, KL]) rfl ?_
    exact ⟨by rw [HN.out], by go_grown⟩
  ·have HN : Hid (N = wsign W n E) := hN
   clear hN
   go_wp2_with fail
   refine (HWS.out _).mono ?_
   rintro e w3 ⟨rfl, hb3⟩
   have hb3' := below_step (w := w) (by go_grown) hb3
   have hs3 := hb3'.size
   have KF3 : W3 w3 w.heap.size W n <| W3 w3 (w.heap.size + 1) W m <| T3 w3 (w.heap.size + 1 + 1) (.int .i64 0) (.int .u64 0) (.int .u64 0) <| F3 w3 (w.heap.size + 1 + 1) <| W3 w3 b7 W D <| W3 w3 b8 W E <| True := (by refine k3 hb3 ?_ ?_ ?_ <| k3 hb3 ?_ ?_ ?_ <| k3 hb3 ?_ ?_ ?_ <| f3 hb3 ?_ ?_ <| k3 hb3 ?_ ?_ ?_ <| k3 hb3 ?_ ?_ ?_ <| trivial <;> (first | (simp [go_sem]; done) | (simp [go_sem, KF0]; done) | (simp [go_sem, KF0, World.cell?_alloc_some, frozen?_alloc_cells]; done))); have KF3z0 := zT KF3; have KF3z1 := zT KF3.2.2.2; have KF3z2 := zT KF3.2.2.2.2.2.2; have KF3z3 := zT KF3.2.2.2.2.2.2.2.2.2.2; have KF3z4 := zT KF3.2.2.2.2.2.2.2.2.2.2.2.2.2
   clear hb3 KF0
   go_wp2_with fail
   refine bodyPost_ret (v := .agg #[.int .i64 W, .int .u64 (LO (wsign W n E)), .int .u64 (HI (wsign W n E))]) (by simp [results, Try.results90, go_sem, KF3]) rfl ?_
   exact ⟨by rw [HN.out], by go_grown⟩
  ·by_cases hE0 : E = 0
   ·have HN : Hid (N = wsign W n E) := by unfold Hid; rw [hN]; simp [hE0]
    have hq0 : eqB E 0 = true := eqB_yes hE0
    clear hN hE0
    go_upto_region 9 with fail
    refine wp_named fun a0 ha0 => ?_
    have o4 := old_at ha0 (t := 4) rfl
    have o5 := old_at ha0 (t := 5) rfl
    have o8 := old_at ha0 (t := 8) rfl
    refine wp_region_lin (S := SF w wc.heap.size [(w.heap.size, [.int .i64 W, .int .u64 (LO (n)), .int .u64 (HI (n))]), (w.heap.size + 1, [.int .i64 W, .int .u64 (LO (m)), .int .u64 (HI (m))]), (w.heap.size + 1 + 1, [.int .i64 0, .int .u64 0, .int .u64 0]), (b7, [.int .i64 W, .int .u64 (LO (D)), .int .u64 (HI (D))]), (b8, [.int .i64 W, .int .u64 (LO (E)), .int .u64 (HI (E))])] [] [] [w.heap.size + 1 + 1]) [] (fun _ => 0) (by kernel_rfl) (by kernel_rfl) (by rw [← ha0]; kernel_rfl) (SF.start (by first | assumption | go_grown) ?_ ?_ ?_ ?_) ?_
    ·intro p hp; simp only [List.mem_cons, List.not_mem_nil, or_false] at hp; rcases hp with rfl | rfl | rfl | rfl | rfl; all_goals exact ⟨At.three (by simp [KF0]) (by simp [KF0]) (by simp [KF0]), by simp⟩
    ·intro b hb; simp only [List.mem_cons, List.not_mem_nil, or_false] at hb; rcases hb with rfl; (all_goals exact ⟨by first | assumption | (simp; done) | (simp; omega) | omega, by intro o; simp [KF0]⟩)
    ·intro f hf; cases hf
    ·intro f hf p hp; cases hf
    apply LinAll.cons0
    ·intro g L a x hLi haft hS hK; have t8 := (hK.old 8 (by kernel_rfl)).trans o8; (try dsimp only at t8); refine go_in (wanted_all rfl) ?_; intro K hk; obtain ⟨c0, c1, c2⟩ := (hS.ss.own _ (.tail _ (.tail _ (.tail _ (.tail _ (.head _)))))).2.get3; clear haft hK hLi; go_simp; exact hS.go hk rfl rfl
    apply LinAll.cons0
    ·intro g L a x hLi haft hS hK; have t4 := (hK.old 4 (by kernel_rfl)).trans o4; (try dsimp only at t4); refine go_in (wanted_all rfl) ?_; intro K hk; clear haft hK hLi; go_simp; exact hS.go hk rfl rfl
    apply LinAll.cons0
    ·intro g L a x hLi haft hS hK; have t33 := hK.nw haft 1 0 33 rfl (by kernel_rfl); (try dsimp only at t33); refine go_in (wanted_all rfl) ?_; intro K hk; obtain ⟨c0, c1, c2⟩ := (hS.ss.own _ (.head _)).2.get3; clear haft hK hLi; go_simp; exact hS.go hk rfl rfl
    apply LinAll.cons0
    ·intro g L a x hLi haft hS hK; have t34 := hK.nw haft 2 0 34 rfl (by kernel_rfl); (try dsimp only at t34); refine go_in (wanted_all rfl) ?_; intro K hk; clear haft hK hLi; go_simp; refine (HCZ.out _).mono ?_; rintro e y ⟨rfl, hb⟩; exact hS.on hk hb rfl rfl
    apply LinAll.cons0
    ·intro g L a x hLi haft hS hK; have t32 := hK.nw haft 0 3 32 rfl (by kernel_rfl); have t35 := hK.nw haft 3 0 35 rfl (by kernel_rfl); (try dsimp only at t32 t35); refine go_in (wanted_all rfl) ?_; intro K hk; clear haft hK hLi; go_simp; exact hS.go hk rfl rfl
    apply LinAll.cons0
    ·intro g L a x hLi haft hS hK; have t36 := hK.nw haft 4 0 36 rfl (by kernel_rfl); (try dsimp only at t36); refine go_in (wanted_all rfl) ?_; intro K hk; clear haft hK hLi; go_simp; exact hS.go hk rfl rfl
    apply LinAll.cons0
    ·intro g L a x hLi haft hS hK; have t4 := (hK.old 4 (by kernel_rfl)).trans o4; have tg := hK.nw haft 5 0 37 rfl (by kernel_rfl); (try dsimp only at t4); exact go_out (wanted_at rfl rfl rfl tg rfl) ⟨rfl, hS.ext (Below.refl _ _) rfl rfl⟩
    apply LinAll.cons0
    ·intro g L a x hLi haft hS hK; have t38 := hK.nw haft 6 0 38 rfl (by kernel_rfl); have tg := hK.nw haft 5 1 37 rfl (by kernel_rfl); (try dsimp only at t38); exact go_out (wanted_at rfl rfl rfl tg rfl) ⟨rfl, hS.ext (Below.refl _ _) rfl rfl⟩
    apply LinAll.cons0
    ·intro g L a x hLi haft hS hK; have t5 := (hK.old 5 (by kernel_rfl)).trans o5; have tg := hK.nw haft 5 2 37 rfl (by kernel_rfl); (try dsimp only at t5); exact go_out (wanted_at rfl rfl rfl tg rfl) ⟨rfl, hS.ext (Below.refl _ _) rfl rfl⟩
    apply LinAll.cons0
    ·intro g L a x hLi haft hS hK; have t40 := hK.nw haft 8 0 40 rfl (by kernel_rfl); have tg := hK.nw haft 5 3 37 rfl (by kernel_rfl); (try dsimp only at t40); exact go_out (wanted_at rfl rfl rfl tg rfl) ⟨rfl, hS.ext (Below.refl _ _) rfl rfl⟩
    apply LinAll.cons0
    ·intro g L a x hLi haft hS hK; have t39 := hK.nw haft 7 2 39 rfl (by kernel_rfl); have t41 := hK.nw haft 9 0 41 rfl (by kernel_rfl); have tg := hK.nw haft 5 4 37 rfl (by kernel_rfl); (try dsimp only at t39 t41); exact go_out (wanted_at rfl rfl rfl tg rfl) ⟨rfl, hS.ext (Below.refl _ _) rfl rfl⟩
    apply LinAll.cons0
    ·intro g L a x hLi haft hS hK; have t37 := hK.nw haft 5 5 37 rfl (by kernel_rfl); have t42 := hK.nw haft 10 0 42 rfl (by kernel_rfl); (try dsimp only at t37 t42); refine go_in (wanted_all rfl) ?_; intro K hk; clear haft hK hLi; go_simp; exact hS.go hk rfl rfl
    refine LinAll.nil fun g x hS => ?_
    subst ha0
    simp only [Act.put, List.setIfInBounds_toArray, List.set_cons_zero, List.set_cons_succ]
    clear o4 o5 o8
    have KL := And.intro (hS.ss.own _ (.head _)).2.get3 (And.intro (hS.ss.own _ (.tail _ (.head _))).2.get3 (And.intro (hS.ss.own _ (.tail _ (.tail _ (.head _)))).2.get3 (And.intro (hS.ss.own _ (.tail _ (.tail _ (.tail _ (.head _))))).2.get3 (And.intro (hS.ss.own _ (.tail _ (.tail _ (.tail _ (.tail _ (.head _)))))).2.get3 (hS.soft _ (.head _)).2))))
    have hBq := hS.ss.below
    have hBs := hBq.size
    clear hS
    go_wp2_with fail
    refine (HWS.out _).mono ?_
    rintro e w4 ⟨rfl, hb4⟩
    have hb4' := below_step (w := w) (by go_grown) hb4
    have hs4 := hb4'.size
    have KF4 : W3 w4 w.heap.size W n <| W3 w4 (w.heap.size + 1) W m <| T3 w4 (w.heap.size + 1 + 1) (.int .i64 0) (.int .u64 0) (.int .u64 0) <| F3 w4 (w.heap.size + 1 + 1) <| W3 w4 b7 W D <| W3 w4 b8 W E <| True := (by refine k3 hb4 ?_ ?_ ?_ <| k3 hb4 ?_ ?_ ?_ <| k3 hb4 ?_ ?_ ?_ <| f3 hb4 ?_ ?_ <| k3 hb4 ?_ ?_ ?_ <| k3 hb4 ?_ ?_ ?_ <| trivial <;> (first | (simp [go_sem]; done) | (simp [go_sem, KL]; done) | (simp [go_sem, KL, World.cell?_alloc_some, frozen?_alloc_cells]; done))); have KF4z0 := zT KF4; have KF4z1 := zT KF4.2.2.2; have KF4z2 := zT KF4.2.2.2.2.2.2; have KF4z3 := zT KF4.2.2.2.2.2.2.2.2.2.2; have KF4z4 := zT KF4.2.2.2.2.2.2.2.2.2.2.2.2.2
    clear hb4 KL
    go_wp2_with fail
    refine bodyPost_ret (v := .agg #[.int .i64 W, .int .u64 (LO (wsign W n E)), .int .u64 (HI (wsign W n E))]) (by simp [results, Try.results90, go_sem, KF4]) rfl ?_
    exact ⟨by rw [HN.out], by go_grown⟩
   ·have hq0 : eqB E 0 = false := eqB_no hE0
    cases bA <;> cases bB
    ·have HN : Hid (N = wsign W n E) := by unfold Hid; rw [hN]; simp [hE0]
     clear hN hE0
     go_upto_region 9 with fail
     refine wp_named fun a0 ha0 => ?_
     have o4 := old_at ha0 (t := 4) rfl
     have o5 := old_at ha0 (t := 5) rfl
     have o8 := old_at ha0 (t := 8) rfl
     refine wp_region_lin (S := SF w wc.heap.size [(w.heap.size, [.int .i64 W, .int .u64 (LO (n)), .int .u64 (HI (n))]), (w.heap.size + 1, [.int .i64 W, .int .u64 (LO (m)), .int .u64 (HI (m))]), (w.heap.size + 1 + 1, [.int .i64 0, .int .u64 0, .int .u64 0]), (b7, [.int .i64 W, .int .u64 (LO (D)), .int .u64 (HI (D))]), (b8, [.int .i64 W, .int .u64 (LO (E)), .int .u64 (HI (E))])] [] [] [w.heap.size + 1 + 1]) [] (fun _ => 0) (by kernel_rfl) (by kernel_rfl) (by rw [← ha0]; kernel_rfl) (SF.start (by first | assumption | go_grown) ?_ ?_ ?_ ?_) ?_
     ·intro p hp; simp only [List.mem_cons, List.not_mem_nil, or_false] at hp; rcases hp with rfl | rfl | rfl | rfl | rfl; all_goals exact ⟨At.three (by simp [KF0]) (by simp [KF0]) (by simp [KF0]), by simp⟩
     ·intro b hb; simp only [List.mem_cons, List.not_mem_nil, or_false] at hb; rcases hb with rfl; (all_goals exact ⟨by first | assumption | (simp; done) | (simp; omega) | omega, by intro o; simp [KF0]⟩)
     ·intro f hf; cases hf
     ·intro f hf p hp; cases hf
     apply LinAll.cons0
     ·intro g L a x hLi haft hS hK; have t8 := (hK.old 8 (by kernel_rfl)).trans o8; (try dsimp only at t8); refine go_in (wanted_all rfl) ?_; intro K hk; obtain ⟨c0, c1, c2⟩ := (hS.ss.own _ (.tail _ (.tail _ (.tail _ (.tail _ (.head _)))))).2.get3; clear haft hK hLi; go_simp; exact hS.go hk rfl rfl
     apply LinAll.cons0
     ·intro g L a x hLi haft hS hK; have t4 := (hK.old 4 (by kernel_rfl)).trans o4; (try dsimp only at t4); refine go_in (wanted_all rfl) ?_; intro K hk; clear haft hK hLi; go_simp; exact hS.go hk rfl rfl
     apply LinAll.cons0
     ·intro g L a x hLi haft hS hK; have t33 := hK.nw haft 1 0 33 rfl (by kernel_rfl); (try dsimp only at t33); refine go_in (wanted_all rfl) ?_; intro K hk; obtain ⟨c0, c1, c2⟩ := (hS.ss.own _ (.head _)).2.get3; clear haft hK hLi; go_simp; exact hS.go hk rfl rfl
     apply LinAll.cons0
     ·intro g L a x hLi haft hS hK; have t34 := hK.nw haft 2 0 34 rfl (by kernel_rfl); (try dsimp only at t34); refine go_in (wanted_all rfl) ?_; intro K hk; clear haft hK hLi; go_simp; refine (HCZ.out _).mono ?_; rintro e y ⟨rfl, hb⟩; exact hS.on hk hb rfl rfl
     apply LinAll.cons0
     ·intro g L a x hLi haft hS hK; have t32 := hK.nw haft 0 3 32 rfl (by kernel_rfl); have t35 := hK.nw haft 3 0 35 rfl (by kernel_rfl); (try dsimp only at t32 t35); refine go_in (wanted_all rfl) ?_; intro K hk; clear haft hK hLi; go_simp; exact hS.go hk rfl rfl
     apply LinAll.cons0
     ·intro g L a x hLi haft hS hK; have t36 := hK.nw haft 4 0 36 rfl (by kernel_rfl); (try dsimp only at t36); refine go_in (wanted_all rfl) ?_; intro K hk; clear haft hK hLi; go_simp; exact hS.go hk rfl rfl
     apply LinAll.cons0
     ·intro g L a x hLi haft hS hK; have t4 := (hK.old 4 (by kernel_rfl)).trans o4; have tg := hK.nw haft 5 0 37 rfl (by kernel_rfl); (try dsimp only at t4); refine go_in (wanted_at rfl rfl rfl tg rfl) ?_; intro K hk; obtain ⟨c0, c1, c2⟩ := (hS.ss.own _ (.head _)).2.get3; clear haft hK tg hLi; go_simp; exact hS.go hk rfl rfl
     apply LinAll.cons0
     ·intro g L a x hLi haft hS hK; have t38 := hK.nw haft 6 0 38 rfl (by kernel_rfl); have tg := hK.nw haft 5 1 37 rfl (by kernel_rfl); (try dsimp only at t38); refine go_in (wanted_at rfl rfl rfl tg rfl) ?_; intro K hk; clear haft hK tg hLi; go_simp; refine (HI1.out _).mono ?_; rintro e y ⟨rfl, hb⟩; exact hS.on hk hb rfl rfl
     apply LinAll.cons0
     ·intro g L a x hLi haft hS hK; have t5 := (hK.old 5 (by kernel_rfl)).trans o5; have tg := hK.nw haft 5 2 37 rfl (by kernel_rfl); (try dsimp only at t5); refine go_in (wanted_at rfl rfl rfl tg rfl) ?_; intro K hk; obtain ⟨c0, c1, c2⟩ := (hS.ss.own _ (.tail _ (.head _))).2.get3; clear haft hK tg hLi; go_simp; exact hS.go hk rfl rfl
     apply LinAll.cons0
     ·intro g L a x hLi haft hS hK; have t40 := hK.nw haft 8 0 40 rfl (by kernel_rfl); have tg := hK.nw haft 5 3 37 rfl (by kernel_rfl); (try dsimp only at t40); refine go_in (wanted_at rfl rfl rfl tg rfl) ?_; intro K hk; clear haft hK tg hLi; go_simp; refine (HI2.out _).mono ?_; rintro e y ⟨rfl, hb⟩; exact hS.on hk hb rfl rfl
     apply LinAll.cons0
     ·intro g L a x hLi haft hS hK; have t39 := hK.nw haft 7 2 39 rfl (by kernel_rfl); have t41 := hK.nw haft 9 0 41 rfl (by kernel_rfl); have tg := hK.nw haft 5 4 37 rfl (by kernel_rfl); (try dsimp only at t39 t41); refine go_in (wanted_at rfl rfl rfl tg rfl) ?_; intro K hk; clear haft hK tg hLi; go_simp; exact hS.go hk rfl rfl
     apply LinAll.cons0
     ·intro g L a x hLi haft hS hK; have t37 := hK.nw haft 5 5 37 rfl (by kernel_rfl); have t42 := hK.nw haft 10 0 42 rfl (by kernel_rfl); (try dsimp only at t37 t42); refine go_in (wanted_all rfl) ?_; intro K hk; clear haft hK hLi; go_simp; exact hS.go hk rfl rfl
     refine LinAll.nil fun g x hS => ?_
     subst ha0
     simp only [Act.put, List.setIfInBounds_toArray, List.set_cons_zero, List.set_cons_succ]
     clear o4 o5 o8
     have KL := And.intro (hS.ss.own _ (.head _)).2.get3 (And.intro (hS.ss.own _ (.tail _ (.head _))).2.get3 (And.intro (hS.ss.own _ (.tail _ (.tail _ (.head _)))).2.get3 (And.intro (hS.ss.own _ (.tail _ (.tail _ (.tail _ (.head _))))).2.get3 (And.intro (hS.ss.own _ (.tail _ (.tail _ (.tail _ (.tail _ (.head _)))))).2.get3 (hS.soft _ (.head _)).2))))
     have hBq := hS.ss.below
     have hBs := hBq.size
     clear hS
     go_wp2_with fail
     refine (HWS.out _).mono ?_
     rintro e w5 ⟨rfl, hb5⟩
     have hb5' := below_step (w := w) (by go_grown) hb5
     have hs5 := hb5'.size
     have KF5 : W3 w5 w.heap.size W n <| W3 w5 (w.heap.size + 1) W m <| T3 w5 (w.heap.size + 1 + 1) (.int .i64 0) (.int .u64 0) (.int .u64 0) <| F3 w5 (w.heap.size + 1 + 1) <| W3 w5 b7 W D <| W3 w5 b8 W E <| True := (by refine k3 hb5 ?_ ?_ ?_ <| k3 hb5 ?_ ?_ ?_ <| k3 hb5 ?_ ?_ ?_ <| f3 hb5 ?_ ?_ <| k3 hb5 ?_ ?_ ?_ <| k3 hb5 ?_ ?_ ?_ <| trivial <;> (first | (simp [go_sem]; done) | (simp [go_sem, KL]; done) | (simp [go_sem, KL, World.cell?_alloc_some, frozen?_alloc_cells]; done))); have KF5z0 := zT KF5; have KF5z1 := zT KF5.2.2.2; have KF5z2 := zT KF5.2.2.2.2.2.2; have KF5z3 := zT KF5.2.2.2.2.2.2.2.2.2.2; have KF5z4 := zT KF5.2.2.2.2.2.2.2.2.2.2.2.2.2
     clear hb5 KL
     go_wp2_with fail
     refine bodyPost_ret (v := .agg #[.int .i64 W, .int .u64 (LO (wsign W n E)), .int .u64 (HI (wsign W n E))]) (by simp [results, Try.results90, go_sem, KF5]) rfl ?_
     exact ⟨by rw [HN.out], by go_grown⟩
    ·have HN : Hid (N = (wsign W n E + m) % 2 ^ W) := by unfold Hid; rw [hN]; simp [hE0]
     clear hN hE0
     go_upto_region 9 with fail
     refine wp_named fun a0 ha0 => ?_
     have o4 := old_at ha0 (t := 4) rfl
     have o5 := old_at ha0 (t := 5) rfl
     have o8 := old_at ha0 (t := 8) rfl
     refine wp_region_lin (S := SF w wc.heap.size [(w.heap.size, [.int .i64 W, .int .u64 (LO (n)), .int .u64 (HI (n))]), (w.heap.size + 1, [.int .i64 W, .int .u64 (LO (m)), .int .u64 (HI (m))]), (w.heap.size + 1 + 1, [.int .i64 0, .int .u64 0, .int .u64 0]), (b7, [.int .i64 W, .int .u64 (LO (D)), .int .u64 (HI (D))]), (b8, [.int .i64 W, .int .u64 (LO (E)), .int .u64 (HI (E))])] [] [] [w.heap.size + 1 + 1]) [] (fun _ => 0) (by kernel_rfl) (by kernel_rfl) (by rw [← ha0]; kernel_rfl) (SF.start (by first | assumption | go_grown) ?_ ?_ ?_ ?_) ?_
     ·intro p hp; simp only [List.mem_cons, List.not_mem_nil, or_false] at hp; rcases hp with rfl | rfl | rfl | rfl | rfl; all_goals exact ⟨At.three (by simp [KF0]) (by simp [KF0]) (by simp [KF0]), by simp⟩
     ·intro b hb; simp only [List.mem_cons, List.not_mem_nil, or_false] at hb; rcases hb with rfl; (all_goals exact ⟨by first | assumption | (simp; done) | (simp; omega) | omega, by intro o; simp [KF0]⟩)
     ·intro f hf; cases hf
     ·intro f hf p hp; cases hf
     apply LinAll.cons0
     ·intro g L a x hLi haft hS hK; have t8 := (hK.old 8 (by kernel_rfl)).trans o8; (try dsimp only at t8); refine go_in (wanted_all rfl) ?_; intro K hk; obtain ⟨c0, c1, c2⟩ := (hS.ss.own _ (.tail _ (.tail _ (.tail _ (.tail _ (.head _)))))).2.get3; clear haft hK hLi; go_simp; exact hS.go hk rfl rfl
     apply LinAll.cons0
     ·intro g L a x hLi haft hS hK; have t4 := (hK.old 4 (by kernel_rfl)).trans o4; (try dsimp only at t4); refine go_in (wanted_all rfl) ?_; intro K hk; clear haft hK hLi; go_simp; exact hS.go hk rfl rfl
     apply LinAll.cons0
     ·intro g L a x hLi haft hS hK; have t33 := hK.nw haft 1 0 33 rfl (by kernel_rfl); (try dsimp only at t33); refine go_in (wanted_all rfl) ?_; intro K hk; obtain ⟨c0, c1, c2⟩ := (hS.ss.own _ (.head _)).2.get3; clear haft hK hLi; go_simp; exact hS.go hk rfl rfl
     apply LinAll.cons0
     ·intro g L a x hLi haft hS hK; have t34 := hK.nw haft 2 0 34 rfl (by kernel_rfl); (try dsimp only at t34); refine go_in (wanted_all rfl) ?_; intro K hk; clear haft hK hLi; go_simp; refine (HCZ.out _).mono ?_; rintro e y ⟨rfl, hb⟩; exact hS.on hk hb rfl rfl
     apply LinAll.cons0
     ·intro g L a x hLi haft hS hK; have t32 := hK.nw haft 0 3 32 rfl (by kernel_rfl); have t35 := hK.nw haft 3 0 35 rfl (by kernel_rfl); (try dsimp only at t32 t35); refine go_in (wanted_all rfl) ?_; intro K hk; clear haft hK hLi; go_simp; exact hS.go hk rfl rfl
     apply LinAll.cons0
     ·intro g L a x hLi haft hS hK; have t36 := hK.nw haft 4 0 36 rfl (by kernel_rfl); (try dsimp only at t36); refine go_in (wanted_all rfl) ?_; intro K hk; clear haft hK hLi; go_simp; exact hS.go hk rfl rfl
     apply LinAll.cons0
     ·intro g L a x hLi haft hS hK; have t4 := (hK.old 4 (by kernel_rfl)).trans o4; have tg := hK.nw haft 5 0 37 rfl (by kernel_rfl); (try dsimp only at t4); refine go_in (wanted_at rfl rfl rfl tg rfl) ?_; intro K hk; obtain ⟨c0, c1, c2⟩ := (hS.ss.own _ (.head _)).2.get3; clear haft hK tg hLi; go_simp; exact hS.go hk rfl rfl
     apply LinAll.cons0
     ·intro g L a x hLi haft hS hK; have t38 := hK.nw haft 6 0 38 rfl (by kernel_rfl); have tg := hK.nw haft 5 1 37 rfl (by kernel_rfl); (try dsimp only at t38); refine go_in (wanted_at rfl rfl rfl tg rfl) ?_; intro K hk; clear haft hK tg hLi; go_simp; refine (HI1.out _).mono ?_; rintro e y ⟨rfl, hb⟩; exact hS.on hk hb rfl rfl
     apply LinAll.cons0
     ·intro g L a x hLi haft hS hK; have t5 := (hK.old 5 (by kernel_rfl)).trans o5; have tg := hK.nw haft 5 2 37 rfl (by kernel_rfl); (try dsimp only at t5); refine go_in (wanted_at rfl rfl rfl tg rfl) ?_; intro K hk; obtain ⟨c0, c1, c2⟩ := (hS.ss.own _ (.tail _ (.head _))).2.get3; clear haft hK tg hLi; go_simp; exact hS.go hk rfl rfl
     apply LinAll.cons0
     ·intro g L a x hLi haft hS hK; have t40 := hK.nw haft 8 0 40 rfl (by kernel_rfl); have tg := hK.nw haft 5 3 37 rfl (by kernel_rfl); (try dsimp only at t40); refine go_in (wanted_at rfl rfl rfl tg rfl) ?_; intro K hk; clear haft hK tg hLi; go_simp; refine (HI2.out _).mono ?_; rintro e y ⟨rfl, hb⟩; exact hS.on hk hb rfl rfl
     apply LinAll.cons0
     ·intro g L a x hLi haft hS hK; have t39 := hK.nw haft 7 2 39 rfl (by kernel_rfl); have t41 := hK.nw haft 9 0 41 rfl (by kernel_rfl); have tg := hK.nw haft 5 4 37 rfl (by kernel_rfl); (try dsimp only at t39 t41); refine go_in (wanted_at rfl rfl rfl tg rfl) ?_; intro K hk; clear haft hK tg hLi; go_simp; exact hS.go hk rfl rfl
     apply LinAll.cons0
     ·intro g L a x hLi haft hS hK; have t37 := hK.nw haft 5 5 37 rfl (by kernel_rfl); have t42 := hK.nw haft 10 0 42 rfl (by kernel_rfl); (try dsimp only at t37 t42); refine go_in (wanted_all rfl) ?_; intro K hk; clear haft hK hLi; go_simp; exact hS.go hk rfl rfl
     refine LinAll.nil fun g x hS => ?_
     subst ha0
     simp only [Act.put, List.setIfInBounds_toArray, List.set_cons_zero, List.set_cons_succ]
     clear o4 o5 o8
     have KL := And.intro (hS.ss.own _ (.head _)).2.get3 (And.intro (hS.ss.own _ (.tail _ (.head _))).2.get3 (And.intro (hS.ss.own _ (.tail _ (.tail _ (.head _)))).2.get3 (And.intro (hS.ss.own _ (.tail _ (.tail _ (.tail _ (.head _))))).2.get3 (And.intro (hS.ss.own _ (.tail _ (.tail _ (.tail _ (.tail _ (.head _)))))).2.get3 (hS.soft _ (.head _)).2))))
     have hBq := hS.ss.below
     have hBs := hBq.size
     clear hS
     have nrx : w.heap.size + 1 + 1 < x.heap.size := World.block_lt_of_cell? _ _ KL.2.2.1.1
     go_upto_region 10 with fail
     have KL0 := KL
     clear KL
     refine wp_named fun a0 ha0 => ?_
     have o4 := old_at ha0 (t := 4) rfl
     have o5 := old_at ha0 (t := 5) rfl
     have o6 := old_at ha0 (t := 6) rfl
     have o8 := old_at ha0 (t := 8) rfl
     refine wp_region_lin (S := SF w _ [(w.heap.size, [.int .i64 W, .int .u64 (LO (n)), .int .u64 (HI (n))]), (w.heap.size + 1, [.int .i64 W, .int .u64 (LO (m)), .int .u64 (HI (m))]), (b7, [.int .i64 W, .int .u64 (LO (D)), .int .u64 (HI (D))]), (b8, [.int .i64 W, .int .u64 (LO (E)), .int .u64 (HI (E))])] [] [(5, w.heap.size + 1 + 1, [.int .i64 W, .int .u64 (LO ((wsign W n E + m) % 2 ^ W)), .int .u64 (HI ((wsign W n E + m) % 2 ^ W))])] [w.heap.size + 1 + 1]) [] (fun _ => 0) (by kernel_rfl) (by kernel_rfl) (by rw [← ha0]; kernel_rfl) (SF.start (by first | assumption | go_grown) ?_ ?_ ?_ ?_) ?_
     ·intro p hp; simp only [List.mem_cons, List.not_mem_nil, or_false] at hp; rcases hp with rfl | rfl | rfl | rfl; all_goals exact ⟨At.three (by simp [KL0]) (by simp [KL0]) (by simp [KL0]), by simp⟩
     ·intro b hb; simp only [List.mem_cons, List.not_mem_nil, or_false] at hb; rcases hb with rfl; (all_goals exact ⟨by first | assumption | (simp; done) | (simp; omega) | omega, by intro o; simp [KL0]⟩)
     ·intro f hf; simp only [List.mem_cons, List.not_mem_nil, or_false] at hf; rcases hf with rfl; (all_goals refine ⟨by first | (simp; done) | (simp; omega) | omega, by first | assumption | (simp; done) | (simp; omega) | omega, ?_⟩); (all_goals intro k hk); (all_goals match k, hk with | 0, _ => simp [KL0] | 1, _ => simp [KL0] | 2, _ => simp [KL0])
     ·intro f hf p hp; simp only [List.mem_cons, List.not_mem_nil, or_false] at hf hp; rcases hf with rfl <;> rcases hp with rfl | rfl | rfl | rfl <;> first | assumption | (simp; done) | (simp; omega) | omega
     apply LinAll.cons0
     ·intro g L a x hLi haft hS hK; have t4 := (hK.old 4 (by kernel_rfl)).trans o4; (try dsimp only at t4); refine go_in (wanted_all rfl) ?_; intro K hk; obtain ⟨c0, c1, c2⟩ := (hS.ss.own _ (.head _)).2.get3; clear haft hK hLi; go_simp; exact hS.go hk rfl rfl
     apply LinAll.cons0
     ·intro g L a x hLi haft hS hK; have t8 := (hK.old 8 (by kernel_rfl)).trans o8; (try dsimp only at t8); refine go_in (wanted_all rfl) ?_; intro K hk; obtain ⟨c0, c1, c2⟩ := (hS.ss.own _ (.tail _ (.tail _ (.tail _ (.head _))))).2.get3; clear haft hK hLi; go_simp; exact hS.go hk rfl rfl
     apply LinAll.cons0
     ·intro g L a x hLi haft hS hK; have t44 := hK.nw haft 0 1 44 rfl (by kernel_rfl); have t45 := hK.nw haft 1 0 45 rfl (by kernel_rfl); (try dsimp only at t44 t45); refine go_in (wanted_all rfl) ?_; intro K hk; clear haft hK hLi; go_simp; refine (HWS.out _).mono ?_; rintro e y ⟨rfl, hb⟩; exact hS.on hk hb rfl rfl
     apply LinAll.cons0
     ·intro g L a x hLi haft hS hK; have t5 := (hK.old 5 (by kernel_rfl)).trans o5; (try dsimp only at t5); refine go_in (wanted_all rfl) ?_; intro K hk; obtain ⟨c0, c1, c2⟩ := (hS.ss.own _ (.tail _ (.head _))).2.get3; clear haft hK hLi; go_simp; exact hS.go hk rfl rfl
     apply LinAll.cons0
     ·intro g L a x hLi haft hS hK; have t46 := hK.nw haft 2 1 46 rfl (by kernel_rfl); have t47 := hK.nw haft 3 0 47 rfl (by kernel_rfl); (try dsimp only at t46 t47); refine go_in (wanted_all rfl) ?_; intro K hk; clear haft hK hLi; go_simp; refine (HAD.out _).mono ?_; rintro e y ⟨rfl, hb⟩; exact hS.on hk hb rfl rfl
     refine LinAll.cons0 (v := fun _ => undef) ?_ ?_
     ·intro g L a x hLi haft hS hK; have t6 := (hK.old 6 (by kernel_rfl)).trans o6; have t48 := hK.nw haft 4 0 48 rfl (by kernel_rfl); (try dsimp only at t6 t48); refine go_in (wanted_all rfl) ?_; intro K hk; obtain ⟨m1, m2, m4⟩ := hS.room _ (.head _); dsimp only [List.length_cons, List.length_nil] at m4; obtain ⟨u0, c0⟩ := Option.isSome_iff_exists.1 (m4 0 (by decide)); obtain ⟨u1, c1⟩ := Option.isSome_iff_exists.1 (m4 1 (by decide)); obtain ⟨u2, c2⟩ := Option.isSome_iff_exists.1 (m4 2 (by decide)); have m3 := (hS.soft _ (.head _)).2; clear m1 m2 m4; clear haft hK hLi; go_simp; refine hk.out g _ (fun _ _ => rfl) (hS.fill (.head _) rfl ?_); intro f hf e; simp only [List.mem_cons, List.not_mem_nil, or_false] at hf; exact hf
     refine LinAll.nil fun g x hS => ?_
     subst ha0
     simp only [Act.put, List.setIfInBounds_toArray, List.set_cons_zero, List.set_cons_succ]
     clear o4 o5 o6 o8
     have KL := And.intro (hS.ss.own _ (.head _)).2.get3 (And.intro (hS.ss.own _ (.tail _ (.head _))).2.get3 (And.intro (hS.ss.own _ (.tail _ (.tail _ (.head _)))).2.get3 (And.intro (hS.ss.own _ (.tail _ (.tail _ (.tail _ (.head _))))).2.get3 (And.intro (hS.full _ (.head _) rfl).get3 (hS.soft _ (.head _)).2))))
     have hBq := hS.ss.below
     have hBs := hBq.size
     clear hS
     go_wp2_with fail
     refine bodyPost_ret (v := .agg #[.int .i64 W, .int .u64 (LO ((wsign W n E + m) % 2 ^ W)), .int .u64 (HI ((wsign W n E + m) % 2 ^ W))]) (by simp [results, Try.results90, go_sem, KL]) rfl ?_
     exact ⟨by rw [HN.out], by go_grown⟩
    ·have HN : Hid (N = (wsign W n E + m) % 2 ^ W) := by unfold Hid; rw [hN]; simp [hE0]
     clear hN hE0
     go_upto_region 9 with fail
     refine wp_named fun a0 ha0 => ?_
     have o4 := old_at ha0 (t := 4) rfl
     have o5 := old_at ha0 (t := 5) rfl
     have o8 := old_at ha0 (t := 8) rfl
     refine wp_region_lin (S := SF w wc.heap.size [(w.heap.size, [.int .i64 W, .int .u64 (LO (n)), .int .u64 (HI (n))]), (w.heap.size + 1, [.int .i64 W, .int .u64 (LO (m)), .int .u64 (HI (m))]), (w.heap.size + 1 + 1, [.int .i64 0, .int .u64 0, .int .u64 0]), (b7, [.int .i64 W, .int .u64 (LO (D)), .int .u64 (HI (D))]), (b8, [.int .i64 W, .int .u64 (LO (E)), .int .u64 (HI (E))])] [] [] [w.heap.size + 1 + 1]) [] (fun _ => 0) (by kernel_rfl) (by kernel_rfl) (by rw [← ha0]; kernel_rfl) (SF.start (by first | assumption | go_grown) ?_ ?_ ?_ ?_) ?_
     ·intro p hp; simp only [List.mem_cons, List.not_mem_nil, or_false] at hp; rcases hp with rfl | rfl | rfl | rfl | rfl; all_goals exact ⟨At.three (by simp [KF0]) (by simp [KF0]) (by simp [KF0]), by simp⟩
     ·intro b hb; simp only [List.mem_cons, List.not_mem_nil, or_false] at hb; rcases hb with rfl; (all_goals exact ⟨by first | assumption | (simp; done) | (simp; omega) | omega, by intro o; simp [KF0]⟩)
     ·intro f hf; cases hf
     ·intro f hf p hp; cases hf
     apply LinAll.cons0
     ·intro g L a x hLi haft hS hK; have t8 := (hK.old 8 (by kernel_rfl)).trans o8; (try dsimp only at t8); refine go_in (wanted_all rfl) ?_; intro K hk; obtain ⟨c0, c1, c2⟩ := (hS.ss.own _ (.tail _ (.tail _ (.tail _ (.tail _ (.head _)))))).2.get3; clear haft hK hLi; go_simp; exact hS.go hk rfl rfl
     apply LinAll.cons0
     ·intro g L a x hLi haft hS hK; have t4 := (hK.old 4 (by kernel_rfl)).trans o4; (try dsimp only at t4); refine go_in (wanted_all rfl) ?_; intro K hk; clear haft hK hLi; go_simp; exact hS.go hk rfl rfl
     apply LinAll.cons0
     ·intro g L a x hLi haft hS hK; have t33 := hK.nw haft 1 0 33 rfl (by kernel_rfl); (try dsimp only at t33); refine go_in (wanted_all rfl) ?_; intro K hk; obtain ⟨c0, c1, c2⟩ := (hS.ss.own _ (.head _)).2.get3; clear haft hK hLi; go_simp; exact hS.go hk rfl rfl
     apply LinAll.cons0
     ·intro g L a x hLi haft hS hK; have t34 := hK.nw haft 2 0 34 rfl (by kernel_rfl); (try dsimp only at t34); refine go_in (wanted_all rfl) ?_; intro K hk; clear haft hK hLi; go_simp; refine (HCZ.out _).mono ?_; rintro e y ⟨rfl, hb⟩; exact hS.on hk hb rfl rfl
     apply LinAll.cons0
     ·intro g L a x hLi haft hS hK; have t32 := hK.nw haft 0 3 32 rfl (by kernel_rfl); have t35 := hK.nw haft 3 0 35 rfl (by kernel_rfl); (try dsimp only at t32 t35); refine go_in (wanted_all rfl) ?_; intro K hk; clear haft hK hLi; go_simp; exact hS.go hk rfl rfl
     apply LinAll.cons0
     ·intro g L a x hLi haft hS hK; have t36 := hK.nw haft 4 0 36 rfl (by kernel_rfl); (try dsimp only at t36); refine go_in (wanted_all rfl) ?_; intro K hk; clear haft hK hLi; go_simp; exact hS.go hk rfl rfl
     apply LinAll.cons0
     ·intro g L a x hLi haft hS hK; have t4 := (hK.old 4 (by kernel_rfl)).trans o4; have tg := hK.nw haft 5 0 37 rfl (by kernel_rfl); (try dsimp only at t4); refine go_in (wanted_at rfl rfl rfl tg rfl) ?_; intro K hk; obtain ⟨c0, c1, c2⟩ := (hS.ss.own _ (.head _)).2.get3; clear haft hK tg hLi; go_simp; exact hS.go hk rfl rfl
     apply LinAll.cons0
     ·intro g L a x hLi haft hS hK; have t38 := hK.nw haft 6 0 38 rfl (by kernel_rfl); have tg := hK.nw haft 5 1 37 rfl (by kernel_rfl); (try dsimp only at t38); refine go_in (wanted_at rfl rfl rfl tg rfl) ?_; intro K hk; clear haft hK tg hLi; go_simp; refine (HI1.out _).mono ?_; rintro e y ⟨rfl, hb⟩; exact hS.on hk hb rfl rfl
     apply LinAll.cons0
     ·intro g L a x hLi haft hS hK; have t5 := (hK.old 5 (by kernel_rfl)).trans o5; have tg := hK.nw haft 5 2 37 rfl (by kernel_rfl); (try dsimp only at t5); refine go_in (wanted_at rfl rfl rfl tg rfl) ?_; intro K hk; obtain ⟨c0, c1, c2⟩ := (hS.ss.own _ (.tail _ (.head _))).2.get3; clear haft hK tg hLi; go_simp; exact hS.go hk rfl rfl
     apply LinAll.cons0
     ·intro g L a x hLi haft hS hK; have t40 := hK.nw haft 8 0 40 rfl (by kernel_rfl); have tg := hK.nw haft 5 3 37 rfl (by kernel_rfl); (try dsimp only at t40); refine go_in (wanted_at rfl rfl rfl tg rfl) ?_; intro K hk; clear haft hK tg hLi; go_simp; refine (HI2.out _).mono ?_; rintro e y ⟨rfl, hb⟩; exact hS.on hk hb rfl rfl
     apply LinAll.cons0
     ·intro g L a x hLi haft hS hK; have t39 := hK.nw haft 7 2 39 rfl (by kernel_rfl); have t41 := hK.nw haft 9 0 41 rfl (by kernel_rfl); have tg := hK.nw haft 5 4 37 rfl (by kernel_rfl); (try dsimp only at t39 t41); refine go_in (wanted_at rfl rfl rfl tg rfl) ?_; intro K hk; clear haft hK tg hLi; go_simp; exact hS.go hk rfl rfl
     apply LinAll.cons0
     ·intro g L a x hLi haft hS hK; have t37 := hK.nw haft 5 5 37 rfl (by kernel_rfl); have t42 := hK.nw haft 10 0 42 rfl (by kernel_rfl); (try dsimp only at t37 t42); refine go_in (wanted_all rfl) ?_; intro K hk; clear haft hK hLi; go_simp; exact hS.go hk rfl rfl
     refine LinAll.nil fun g x hS => ?_
     subst ha0
     simp only [Act.put, List.setIfInBounds_toArray, List.set_cons_zero, List.set_cons_succ]
     clear o4 o5 o8
     have KL := And.intro (hS.ss.own _ (.head _)).2.get3 (And.intro (hS.ss.own _ (.tail _ (.head _))).2.get3 (And.intro (hS.ss.own _ (.tail _ (.tail _ (.head _)))).2.get3 (And.intro (hS.ss.own _ (.tail _ (.tail _ (.tail _ (.head _))))).2.get3 (And.intro (hS.ss.own _ (.tail _ (.tail _ (.tail _ (.tail _ (.head _)))))).2.get3 (hS.soft _ (.head _)).2))))
     have hBq := hS.ss.below
     have hBs := hBq.size
     clear hS
     have nrx : w.heap.size + 1 + 1 < x.heap.size := World.block_lt_of_cell? _ _ KL.2.2.1.1
     go_upto_region 10 with fail
     have KL0 := KL
     clear KL
     refine wp_named fun a0 ha0 => ?_
     have o4 := old_at ha0 (t := 4) rfl
     have o5 := old_at ha0 (t := 5) rfl
     have o6 := old_at ha0 (t := 6) rfl
     have o8 := old_at ha0 (t := 8) rfl
     refine wp_region_lin (S := SF w _ [(w.heap.size, [.int .i64 W, .int .u64 (LO (n)), .int .u64 (HI (n))]), (w.heap.size + 1, [.int .i64 W, .int .u64 (LO (m)), .int .u64 (HI (m))]), (b7, [.int .i64 W, .int .u64 (LO (D)), .int .u64 (HI (D))]), (b8, [.int .i64 W, .int .u64 (LO (E)), .int .u64 (HI (E))])] [] [(5, w.heap.size + 1 + 1, [.int .i64 W, .int .u64 (LO ((wsign W n E + m) % 2 ^ W)), .int .u64 (HI ((wsign W n E + m) % 2 ^ W))])] [w.heap.size + 1 + 1]) [] (fun _ => 0) (by kernel_rfl) (by kernel_rfl) (by rw [← ha0]; kernel_rfl) (SF.start (by first | assumption | go_grown) ?_ ?_ ?_ ?_) ?_
     ·intro p hp; simp only [List.mem_cons, List.not_mem_nil, or_false] at hp; rcases hp with rfl | rfl | rfl | rfl; all_goals exact ⟨At.three (by simp [KL0]) (by simp [KL0]) (by simp [KL0]), by simp⟩
     ·intro b hb; simp only [List.mem_cons, List.not_mem_nil, or_false] at hb; rcases hb with rfl; (all_goals exact ⟨by first | assumption | (simp; done) | (simp; omega) | omega, by intro o; simp [KL0]⟩)
     ·intro f hf; simp only [List.mem_cons, List.not_mem_nil, or_false] at hf; rcases hf with rfl; (all_goals refine ⟨by first | (simp; done) | (simp; omega) | omega, by first | assumption | (simp; done) | (simp; omega) | omega, ?_⟩); (all_goals intro k hk); (all_goals match k, hk with | 0, _ => simp [KL0] | 1, _ => simp [KL0] | 2, _ => simp [KL0])
     ·intro f hf p hp; simp only [List.mem_cons, List.not_mem_nil, or_false] at hf hp; rcases hf with rfl <;> rcases hp with rfl | rfl | rfl | rfl <;> first | assumption | (simp; done) | (simp; omega) | omega
     apply LinAll.cons0
     ·intro g L a x hLi haft hS hK; have t4 := (hK.old 4 (by kernel_rfl)).trans o4; (try dsimp only at t4); refine go_in (wanted_all rfl) ?_; intro K hk; obtain ⟨c0, c1, c2⟩ := (hS.ss.own _ (.head _)).2.get3; clear haft hK hLi; go_simp; exact hS.go hk rfl rfl
     apply LinAll.cons0
     ·intro g L a x hLi haft hS hK; have t8 := (hK.old 8 (by kernel_rfl)).trans o8; (try dsimp only at t8); refine go_in (wanted_all rfl) ?_; intro K hk; obtain ⟨c0, c1, c2⟩ := (hS.ss.own _ (.tail _ (.tail _ (.tail _ (.head _))))).2.get3; clear haft hK hLi; go_simp; exact hS.go hk rfl rfl
     apply LinAll.cons0
     ·intro g L a x hLi haft hS hK; have t44 := hK.nw haft 0 1 44 rfl (by kernel_rfl); have t45 := hK.nw haft 1 0 45 rfl (by kernel_rfl); (try dsimp only at t44 t45); refine go_in (wanted_all rfl) ?_; intro K hk; clear haft hK hLi; go_simp; refine (HWS.out _).mono ?_; rintro e y ⟨rfl, hb⟩; exact hS.on hk hb rfl rfl
     apply LinAll.cons0
     ·intro g L a x hLi haft hS hK; have t5 := (hK.old 5 (by kernel_rfl)).trans o5; (try dsimp only at t5); refine go_in (wanted_all rfl) ?_; intro K hk; obtain ⟨c0, c1, c2⟩ := (hS.ss.own _ (.tail _ (.head _))).2.get3; clear haft hK hLi; go_simp; exact hS.go hk rfl rfl
     apply LinAll.cons0
     ·intro g L a x hLi haft hS hK; have t46 := hK.nw haft 2 1 46 rfl (by kernel_rfl); have t47 := hK.nw haft 3 0 47 rfl (by kernel_rfl); (try dsimp only at t46 t47); refine go_in (wanted_all rfl) ?_; intro K hk; clear haft hK hLi; go_simp; refine (HAD.out _).mono ?_; rintro e y ⟨rfl, hb⟩; exact hS.on hk hb rfl rfl
     refine LinAll.cons0 (v := fun _ => undef) ?_ ?_
     ·intro g L a x hLi haft hS hK; have t6 := (hK.old 6 (by kernel_rfl)).trans o6; have t48 := hK.nw haft 4 0 48 rfl (by kernel_rfl); (try dsimp only at t6 t48); refine go_in (wanted_all rfl) ?_; intro K hk; obtain ⟨m1, m2, m4⟩ := hS.room _ (.head _); dsimp only [List.length_cons, List.length_nil] at m4; obtain ⟨u0, c0⟩ := Option.isSome_iff_exists.1 (m4 0 (by decide)); obtain ⟨u1, c1⟩ := Option.isSome_iff_exists.1 (m4 1 (by decide)); obtain ⟨u2, c2⟩ := Option.isSome_iff_exists.1 (m4 2 (by decide)); have m3 := (hS.soft _ (.head _)).2; clear m1 m2 m4; clear haft hK hLi; go_simp; refine hk.out g _ (fun _ _ => rfl) (hS.fill (.head _) rfl ?_); intro f hf e; simp only [List.mem_cons, List.not_mem_nil, or_false] at hf; exact hf
     refine LinAll.nil fun g x hS => ?_
     subst ha0
     simp only [Act.put, List.setIfInBounds_toArray, List.set_cons_zero, List.set_cons_succ]
     clear o4 o5 o6 o8
     have KL := And.intro (hS.ss.own _ (.head _)).2.get3 (And.intro (hS.ss.own _ (.tail _ (.head _))).2.get3 (And.intro (hS.ss.own _ (.tail _ (.tail _ (.head _)))).2.get3 (And.intro (hS.ss.own _ (.tail _ (.tail _ (.tail _ (.head _))))).2.get3 (And.intro (hS.full _ (.head _) rfl).get3 (hS.soft _ (.head _)).2))))
     have hBq := hS.ss.below
     have hBs := hBq.size
     clear hS
     go_wp2_with fail
     refine bodyPost_ret (v := .agg #[.int .i64 W, .int .u64 (LO ((wsign W n E + m) % 2 ^ W)), .int .u64 (HI ((wsign W n E + m) % 2 ^ W))]) (by simp [results, Try.results90, go_sem, KL]) rfl ?_
     exact ⟨by rw [HN.out], by go_grown⟩
    ·have HN : Hid (N = wsign W n E) := by unfold Hid; rw [hN]; simp [hE0]
     clear hN hE0
     go_upto_region 9 with fail
     refine wp_named fun a0 ha0 => ?_
     have o4 := old_at ha0 (t := 4) rfl
     have o5 := old_at ha0 (t := 5) rfl
     have o8 := old_at ha0 (t := 8) rfl
     refine wp_region_lin (S := SF w wc.heap.size [(w.heap.size, [.int .i64 W, .int .u64 (LO (n)), .int .u64 (HI (n))]), (w.heap.size + 1, [.int .i64 W, .int .u64 (LO (m)), .int .u64 (HI (m))]), (w.heap.size + 1 + 1, [.int .i64 0, .int .u64 0, .int .u64 0]), (b7, [.int .i64 W, .int .u64 (LO (D)), .int .u64 (HI (D))]), (b8, [.int .i64 W, .int .u64 (LO (E)), .int .u64 (HI (E))])] [] [] [w.heap.size + 1 + 1]) [] (fun _ => 0) (by kernel_rfl) (by kernel_rfl) (by rw [← ha0]; kernel_rfl) (SF.start (by first | assumption | go_grown) ?_ ?_ ?_ ?_) ?_
     ·intro p hp; simp only [List.mem_cons, List.not_mem_nil, or_false] at hp; rcases hp with rfl | rfl | rfl | rfl | rfl; all_goals exact ⟨At.three (by simp [KF0]) (by simp [KF0]) (by simp [KF0]), by simp⟩
     ·intro b hb; simp only [List.mem_cons, List.not_mem_nil, or_false] at hb; rcases hb with rfl; (all_goals exact ⟨by first | assumption | (simp; done) | (simp; omega) | omega, by intro o; simp [KF0]⟩)
     ·intro f hf; cases hf
     ·intro f hf p hp; cases hf
     apply LinAll.cons0
     ·intro g L a x hLi haft hS hK; have t8 := (hK.old 8 (by kernel_rfl)).trans o8; (try dsimp only at t8); refine go_in (wanted_all rfl) ?_; intro K hk; obtain ⟨c0, c1, c2⟩ := (hS.ss.own _ (.tail _ (.tail _ (.tail _ (.tail _ (.head _)))))).2.get3; clear haft hK hLi; go_simp; exact hS.go hk rfl rfl
     apply LinAll.cons0
     ·intro g L a x hLi haft hS hK; have t4 := (hK.old 4 (by kernel_rfl)).trans o4; (try dsimp only at t4); refine go_in (wanted_all rfl) ?_; intro K hk; clear haft hK hLi; go_simp; exact hS.go hk rfl rfl
     apply LinAll.cons0
     ·intro g L a x hLi haft hS hK; have t33 := hK.nw haft 1 0 33 rfl (by kernel_rfl); (try dsimp only at t33); refine go_in (wanted_all rfl) ?_; intro K hk; obtain ⟨c0, c1, c2⟩ := (hS.ss.own _ (.head _)).2.get3; clear haft hK hLi; go_simp; exact hS.go hk rfl rfl
     apply LinAll.cons0
     ·intro g L a x hLi haft hS hK; have t34 := hK.nw haft 2 0 34 rfl (by kernel_rfl); (try dsimp only at t34); refine go_in (wanted_all rfl) ?_; intro K hk; clear haft hK hLi; go_simp; refine (HCZ.out _).mono ?_; rintro e y ⟨rfl, hb⟩; exact hS.on hk hb rfl rfl
     apply LinAll.cons0
     ·intro g L a x hLi haft hS hK; have t32 := hK.nw haft 0 3 32 rfl (by kernel_rfl); have t35 := hK.nw haft 3 0 35 rfl (by kernel_rfl); (try dsimp only at t32 t35); refine go_in (wanted_all rfl) ?_; intro K hk; clear haft hK hLi; go_simp; exact hS.go hk rfl rfl
     apply LinAll.cons0
     ·intro g L a x hLi haft hS hK; have t36 := hK.nw haft 4 0 36 rfl (by kernel_rfl); (try dsimp only at t36); refine go_in (wanted_all rfl) ?_; intro K hk; clear haft hK hLi; go_simp; exact hS.go hk rfl rfl
     apply LinAll.cons0
     ·intro g L a x hLi haft hS hK; have t4 := (hK.old 4 (by kernel_rfl)).trans o4; have tg := hK.nw haft 5 0 37 rfl (by kernel_rfl); (try dsimp only at t4); refine go_in (wanted_at rfl rfl rfl tg rfl) ?_; intro K hk; obtain ⟨c0, c1, c2⟩ := (hS.ss.own _ (.head _)).2.get3; clear haft hK tg hLi; go_simp; exact hS.go hk rfl rfl
     apply LinAll.cons0
     ·intro g L a x hLi haft hS hK; have t38 := hK.nw haft 6 0 38 rfl (by kernel_rfl); have tg := hK.nw haft 5 1 37 rfl (by kernel_rfl); (try dsimp only at t38); refine go_in (wanted_at rfl rfl rfl tg rfl) ?_; intro K hk; clear haft hK tg hLi; go_simp; refine (HI1.out _).mono ?_; rintro e y ⟨rfl, hb⟩; exact hS.on hk hb rfl rfl
     apply LinAll.cons0
     ·intro g L a x hLi haft hS hK; have t5 := (hK.old 5 (by kernel_rfl)).trans o5; have tg := hK.nw haft 5 2 37 rfl (by kernel_rfl); (try dsimp only at t5); refine go_in (wanted_at rfl rfl rfl tg rfl) ?_; intro K hk; obtain ⟨c0, c1, c2⟩ := (hS.ss.own _ (.tail _ (.head _))).2.get3; clear haft hK tg hLi; go_simp; exact hS.go hk rfl rfl
     apply LinAll.cons0
     ·intro g L a x hLi haft hS hK; have t40 := hK.nw haft 8 0 40 rfl (by kernel_rfl); have tg := hK.nw haft 5 3 37 rfl (by kernel_rfl); (try dsimp only at t40); refine go_in (wanted_at rfl rfl rfl tg rfl) ?_; intro K hk; clear haft hK tg hLi; go_simp; refine (HI2.out _).mono ?_; rintro e y ⟨rfl, hb⟩; exact hS.on hk hb rfl rfl
     apply LinAll.cons0
     ·intro g L a x hLi haft hS hK; have t39 := hK.nw haft 7 2 39 rfl (by kernel_rfl); have t41 := hK.nw haft 9 0 41 rfl (by kernel_rfl); have tg := hK.nw haft 5 4 37 rfl (by kernel_rfl); (try dsimp only at t39 t41); refine go_in (wanted_at rfl rfl rfl tg rfl) ?_; intro K hk; clear haft hK tg hLi; go_simp; exact hS.go hk rfl rfl
     apply LinAll.cons0
     ·intro g L a x hLi haft hS hK; have t37 := hK.nw haft 5 5 37 rfl (by kernel_rfl); have t42 := hK.nw haft 10 0 42 rfl (by kernel_rfl); (try dsimp only at t37 t42); refine go_in (wanted_all rfl) ?_; intro K hk; clear haft hK hLi; go_simp; exact hS.go hk rfl rfl
     refine LinAll.nil fun g x hS => ?_
     subst ha0
     simp only [Act.put, List.setIfInBounds_toArray, List.set_cons_zero, List.set_cons_succ]
     clear o4 o5 o8
     have KL := And.intro (hS.ss.own _ (.head _)).2.get3 (And.intro (hS.ss.own _ (.tail _ (.head _))).2.get3 (And.intro (hS.ss.own _ (.tail _ (.tail _ (.head _)))).2.get3 (And.intro (hS.ss.own _ (.tail _ (.tail _ (.tail _ (.head _))))).2.get3 (And.intro (hS.ss.own _ (.tail _ (.tail _ (.tail _ (.tail _ (.head _)))))).2.get3 (hS.soft _ (.head _)).2))))
     have hBq := hS.ss.below
     have hBs := hBq.size
     clear hS
     go_wp2_with fail
     refine (HWS.out _).mono ?_
     rintro e w6 ⟨rfl, hb6⟩
     have hb6' := below_step (w := w) (by go_grown) hb6
     have hs6 := hb6'.size
     have KF6 : W3 w6 w.heap.size W n <| W3 w6 (w.heap.size + 1) W m <| T3 w6 (w.heap.size + 1 + 1) (.int .i64 0) (.int .u64 0) (.int .u64 0) <| F3 w6 (w.heap.size + 1 + 1) <| W3 w6 b7 W D <| W3 w6 b8 W E <| True := (by refine k3 hb6 ?_ ?_ ?_ <| k3 hb6 ?_ ?_ ?_ <| k3 hb6 ?_ ?_ ?_ <| f3 hb6 ?_ ?_ <| k3 hb6 ?_ ?_ ?_ <| k3 hb6 ?_ ?_ ?_ <| trivial <;> (first | (simp [go_sem]; done) | (simp [go_sem, KL]; done) | (simp [go_sem, KL, World.cell?_alloc_some, frozen?_alloc_cells]; done))); have KF6z0 := zT KF6; have KF6z1 := zT KF6.2.2.2; have KF6z2 := zT KF6.2.2.2.2.2.2; have KF6z3 := zT KF6.2.2.2.2.2.2.2.2.2.2; have KF6z4 := zT KF6.2.2.2.2.2.2.2.2.2.2.2.2.2
     clear hb6 KL
     go_wp2_with fail
     refine bodyPost_ret (v := .agg #[.int .i64 W, .int .u64 (LO (wsign W n E)), .int .u64 (HI (wsign W n E))]) (by simp [results, Try.results90, go_sem, KF6]) rfl ?_
     exact ⟨by rw [HN.out], by go_grown⟩
end Go.Proofs.Ytedldoobmmhloaa
