/- The walk of BvDivides. -/
import Derived.Deep.CutRange
import Derived.Test.YtcfbabgffhfkdaaN
import Derived.Test.YtcfbabgffhfkdaaQ7
import Derived.Test.YtcfbabgffhfkdaaQ4
import Derived.Test.YtcfbabgffhfkdaaP1
import Derived.Test.YtcfbabgffhfkdaaO2
import Derived.Test.YtcfbabgffhfkdaaLin2
namespace Go.Proofs.Ytcfbabgffhfkdaa
open Go.RowKit
set_option linter.unusedSimpArgs false
set_option linter.unusedVariables false

theorem do_signed {W n m N : Nat} {op WW lo hi WW' lo' hi' : Int} (hop : (op = 23 ∧ N = sdiv W n m) ∨ (op = 24 ∧ N = srem W n m) ∨ (op = 25 ∧ N = smod W n m)) (hw : Wd WW lo hi W n) (hw' : Wd WW' lo' hi' W m) (w : World) :
    Calls Try.prog 34 #[.int .i64 op, .agg #[.int .i64 WW, .int .u64 lo, .int .u64 hi], .agg #[.int .i64 WW', .int .u64 lo', .int .u64 hi']] w fun e w' => e = .returned (.agg #[.int .i64 W, .int .u64 (LO (N)), .int .u64 (HI (N))]) ∧ Below w.heap.size w w' :=
  do_of (fun wx => two_signed hop hw hw' wx) w


set_option maxRecDepth 100000 in
set_option maxHeartbeats 8000000 in
theorem walk_divides (HK : ∀ wx, Calls Try.prog 9 #[] wx fun e w' => e = .returned (.bool true) ∧ Below wx.heap.size wx w') (a0 a1 a2 a3 a4 : Int) (w0 : (Lit.int .i64 a0).wf = true) (w1 : (Lit.int .u64 a1).wf = true) (w2 : (Lit.int .u64 a2).wf = true) (w3 : (Lit.int .u64 a3).wf = true) (w4 : (Lit.int .u64 a4).wf = true) (w : World) :
    Calls Try.prog 6 #[.int .i64 a0, .int .u64 a1, .int .u64 a2, .int .u64 a3, .int .u64 a4] w fun e w' => e = .returned (.bool true) ∧ Below w.heap.size w w' := by
  obtain ⟨h1, h2, hn, HA⟩ := word_of w0 w1 w2
  obtain ⟨-, -, hm, HB⟩ := word_of w0 w3 w4
  generalize wnum a0 a1 a2 = n at *
  generalize wnum a0 a3 a4 = m at *
  generalize wdt a0 = W at *
  clear w0 w1 w2 w3 w4
  obtain ⟨Z, hZ⟩ : ∃ Z : Nat, Z = 0 := ⟨_, rfl⟩
  have HZZ : Hid (LO Z = 0 ∧ HI Z = 0) := by rw [hZ]; exact ⟨lo0.symm, hi0.symm⟩
  have lZ : Z < 2 ^ W := by rw [hZ]; exact Nat.two_pow_pos W
  obtain ⟨DQ, hDQ⟩ : ∃ x, x = udiv W n m := ⟨_, rfl⟩
  obtain ⟨DR, hDR⟩ : ∃ x, x = urem n m := ⟨_, rfl⟩
  obtain ⟨DS, hDS⟩ : ∃ x, x = sdiv W n m := ⟨_, rfl⟩
  obtain ⟨DT, hDT⟩ : ∃ x, x = srem W n m := ⟨_, rfl⟩
  obtain ⟨DM, hDM⟩ : ∃ x, x = smod W n m := ⟨_, rfl⟩
  have lQ : DQ < 2 ^ W := by rw [hDQ]; exact udiv_lt hn
  have lR : DR < 2 ^ W := by rw [hDR]; exact urem_lt hn
  have lS : DS < 2 ^ W := by rw [hDS]; exact sdiv_lt hn
  have lT : DT < 2 ^ W := by rw [hDT]; exact srem_lt hn
  have lM : DM < 2 ^ W := by rw [hDM]; exact smod_lt hn
  have HQ : Hid (∀ wx, Calls Try.prog 34 #[.int .i64 21, .agg #[.int .i64 W, .int .u64 (LO (n)), .int .u64 (HI (n))], .agg #[.int .i64 W, .int .u64 (LO (m)), .int .u64 (HI (m))]] wx fun e w' => e = .returned (.agg #[.int .i64 W, .int .u64 (LO (DQ)), .int .u64 (HI (DQ))]) ∧ Below wx.heap.size wx w') := fun wx => by rw [hDQ]; exact do_udiv (Wd.mk' h1 h2 hn) (Wd.mk' h1 h2 hm) wx
  have HR : Hid (∀ wx, Calls Try.prog 34 #[.int .i64 22, .agg #[.int .i64 W, .int .u64 (LO (n)), .int .u64 (HI (n))], .agg #[.int .i64 W, .int .u64 (LO (m)), .int .u64 (HI (m))]] wx fun e w' => e = .returned (.agg #[.int .i64 W, .int .u64 (LO (DR)), .int .u64 (HI (DR))]) ∧ Below wx.heap.size wx w') := fun wx => by rw [hDR]; exact do_urem (Wd.mk' h1 h2 hn) (Wd.mk' h1 h2 hm) wx
  have HS : Hid (∀ wx, Calls Try.prog 34 #[.int .i64 23, .agg #[.int .i64 W, .int .u64 (LO (n)), .int .u64 (HI (n))], .agg #[.int .i64 W, .int .u64 (LO (m)), .int .u64 (HI (m))]] wx fun e w' => e = .returned (.agg #[.int .i64 W, .int .u64 (LO (DS)), .int .u64 (HI (DS))]) ∧ Below wx.heap.size wx w') := fun wx => do_signed (Or.inl ⟨rfl, hDS⟩) (Wd.mk' h1 h2 hn) (Wd.mk' h1 h2 hm) wx
  have HT : Hid (∀ wx, Calls Try.prog 34 #[.int .i64 24, .agg #[.int .i64 W, .int .u64 (LO (n)), .int .u64 (HI (n))], .agg #[.int .i64 W, .int .u64 (LO (m)), .int .u64 (HI (m))]] wx fun e w' => e = .returned (.agg #[.int .i64 W, .int .u64 (LO (DT)), .int .u64 (HI (DT))]) ∧ Below wx.heap.size wx w') := fun wx => do_signed (Or.inr (Or.inl ⟨rfl, hDT⟩)) (Wd.mk' h1 h2 hn) (Wd.mk' h1 h2 hm) wx
  have HM : Hid (∀ wx, Calls Try.prog 34 #[.int .i64 25, .agg #[.int .i64 W, .int .u64 (LO (n)), .int .u64 (HI (n))], .agg #[.int .i64 W, .int .u64 (LO (m)), .int .u64 (HI (m))]] wx fun e w' => e = .returned (.agg #[.int .i64 W, .int .u64 (LO (DM)), .int .u64 (HI (DM))]) ∧ Below wx.heap.size wx w') := fun wx => do_signed (Or.inr (Or.inr ⟨rfl, hDM⟩)) (Wd.mk' h1 h2 hn) (Wd.mk' h1 h2 hm) wx
  obtain ⟨SB, hSB⟩ : ∃ x, x = lowop 8 W DS m := ⟨_, rfl⟩
  have lSB : SB < 2 ^ W := by rw [hSB]; exact lowop_lt lS hm
  have HSB : Hid (∀ wx, Calls Try.prog 34 #[.int .i64 20, .agg #[.int .i64 W, .int .u64 (LO (DS)), .int .u64 (HI (DS))], .agg #[.int .i64 W, .int .u64 (LO (m)), .int .u64 (HI (m))]] wx fun e w' => e = .returned (.agg #[.int .i64 W, .int .u64 (LO (SB)), .int .u64 (HI (SB))]) ∧ Below wx.heap.size wx w') := fun wx => by rw [hSB]; exact do_low (k := 8) (op := 20) rfl (by decide) (Wd.mk' h1 h2 lS) (Wd.mk' h1 h2 hm) wx
  have HSA : Hid (∀ wx, Calls Try.prog 34 #[.int .i64 18, .agg #[.int .i64 W, .int .u64 (LO (SB)), .int .u64 (HI (SB))], .agg #[.int .i64 W, .int .u64 (LO (DT)), .int .u64 (HI (DT))]] wx fun e w' => e = .returned (.agg #[.int .i64 W, .int .u64 (LO (n)), .int .u64 (HI (n))]) ∧ Below wx.heap.size wx w') := fun wx => by
    have h := do_low (k := 6) (op := 18) rfl (by decide) (Wd.mk' h1 h2 lSB) (Wd.mk' h1 h2 lT) wx
    rw [hSB, hDS, hDT, sdiv_make h1 hn hm, ← hDS, ← hDT, ← hSB] at h
    exact h
  have hqn := neq_w
  have hqe := eq_w
  have qnn : eqB n n = true := eqB_yes rfl
  have HD : Hid (DQ = udiv W n m ∧ DR = urem n m ∧ DS = sdiv W n m ∧ DT = srem W n m ∧ DM = smod W n m ∧ Z = 0) := ⟨hDQ, hDR, hDS, hDT, hDM, hZ⟩
  clear hDQ hDR hDS hDT hDM hSB hZ
  have HKH : Hid _ := HK
  clear HK
  go_enter Try.func6, Try.ntmps6
  go_wp2_with fail
  refine (HKH.out _).mono ?_
  rintro e w1 ⟨rfl, hb1⟩
  have hb1' := below_step (w := w) (by go_grown) hb1
  have hs1 := hb1'.size
  go_wp2_with fail
  refine (HA.out _).mono ?_
  rintro e w2 ⟨rfl, hb2⟩
  have hb2' := below_step (w := w) (by go_grown) hb2
  have hs2 := hb2'.size
  go_wp2_with fail
  refine (HB.out _).mono ?_
  rintro e w3 ⟨rfl, hb3⟩
  have hb3' := below_step (w := w) (by go_grown) hb3
  have hs3 := hb3'.size
  clear HKH HA HB
  go_upto_region 5 with fail
  go_cut [14, 15] from 33 to 38 (fun v14 v15 X => ∃ b1 b2 : Nat, v14 = .pointer (some ⟨b1, 0, none⟩) ∧ v15 = .pointer (some ⟨b2, 0, none⟩) ∧ (X.cell? ⟨w3.heap.size, 0, none⟩ = some (.int .i64 W) ∧ X.cell? ⟨w3.heap.size, 1, none⟩ = some (.int .u64 (LO (n))) ∧ X.cell? ⟨w3.heap.size, 2, none⟩ = some (.int .u64 (HI (n))) ∧ X.cell? ⟨w3.heap.size + 1, 0, none⟩ = some (.int .i64 W) ∧ X.cell? ⟨w3.heap.size + 1, 1, none⟩ = some (.int .u64 (LO (m))) ∧ X.cell? ⟨w3.heap.size + 1, 2, none⟩ = some (.int .u64 (HI (m))) ∧ X.cell? ⟨w3.heap.size + 1 + 1, 0, none⟩ = some (.int .i64 W) ∧ X.cell? ⟨w3.heap.size + 1 + 1, 1, none⟩ = some (.int .u64 (LO (Z))) ∧ X.cell? ⟨w3.heap.size + 1 + 1, 2, none⟩ = some (.int .u64 (HI (Z))) ∧ X.cell? ⟨b1, 0, none⟩ = some (.int .i64 W) ∧ X.cell? ⟨b1, 1, none⟩ = some (.int .u64 (LO (DQ))) ∧ X.cell? ⟨b1, 2, none⟩ = some (.int .u64 (HI (DQ))) ∧ X.cell? ⟨b2, 0, none⟩ = some (.int .i64 W) ∧ X.cell? ⟨b2, 1, none⟩ = some (.int .u64 (LO (DR))) ∧ X.cell? ⟨b2, 2, none⟩ = some (.int .u64 (HI (DR)))) ∧ Below w.heap.size w X)
  case first =>
    refine wp_named fun a0 ha0 => ?_
    have o11 := old_at ha0 (t := 11) rfl
    have o12 := old_at ha0 (t := 12) rfl
    refine wp_region_lin (S := SS w _ [(w3.heap.size, [.int .i64 W, .int .u64 (LO (n)), .int .u64 (HI (n))]), (w3.heap.size + 1, [.int .i64 W, .int .u64 (LO (m)), .int .u64 (HI (m))]), (w3.heap.size + 1 + 1, [.int .i64 W, .int .u64 (LO (Z)), .int .u64 (HI (Z))])] [(6, 8, [.int .i64 W, .int .u64 (LO (DQ)), .int .u64 (HI (DQ))]), (7, 9, [.int .i64 W, .int .u64 (LO (DR)), .int .u64 (HI (DR))])]) [6, 7] (fun _ => 0) (by kernel_rfl) (by kernel_rfl) (by rw [← ha0]; kernel_rfl) (SS.start (by first | assumption | go_grown) ?_) ?_
    · intro p hp; simp only [List.mem_cons, List.not_mem_nil, or_false] at hp; rcases hp with rfl | rfl | rfl; all_goals exact ⟨At.three (by simp [go_sem, HZZ.out.1, HZZ.out.2]) (by simp [go_sem, HZZ.out.1, HZZ.out.2]) (by simp [go_sem, HZZ.out.1, HZZ.out.2]), by simp⟩
    refine' LinAll.cons _ ?_ ?_ ?_
    rotate_left 1
    · intro g L a x hLi haft hS hK; have t11 := (hK.old 11 (by kernel_rfl)).trans o11; (try dsimp only at t11); refine go_in (wanted_all rfl) ?_; intro K hk; obtain ⟨c0, c1, c2⟩ := (hS.own _ (.head _)).2.get3; clear haft hK hLi; go_simp; exact hS.go hk rfl
    · intro i hi; simp only [List.mem_cons, List.not_mem_nil, or_false] at hi; rcases hi with rfl | rfl; (first | exact Or.inl (fun _ _ _ => rfl) | exact Or.inr (by kernel_rfl)); (first | exact Or.inl (fun _ _ _ => rfl) | exact Or.inr (by kernel_rfl))
    refine' LinAll.cons _ ?_ ?_ ?_
    rotate_left 1
    · intro g L a x hLi haft hS hK; have t12 := (hK.old 12 (by kernel_rfl)).trans o12; (try dsimp only at t12); refine go_in (wanted_all rfl) ?_; intro K hk; obtain ⟨c0, c1, c2⟩ := (hS.own _ (.tail _ (.head _))).2.get3; clear haft hK hLi; go_simp; exact hS.go hk rfl
    · intro i hi; simp only [List.mem_cons, List.not_mem_nil, or_false] at hi; rcases hi with rfl | rfl; (first | exact Or.inl (fun _ _ _ => rfl) | exact Or.inr (by kernel_rfl)); (first | exact Or.inl (fun _ _ _ => rfl) | exact Or.inr (by kernel_rfl))
    refine' LinAll.cons _ ?_ ?_ ?_
    rotate_left 1
    · intro g L a x hLi haft hS hK; have t33 := hK.new 0 1 _ 33 _ rfl rfl rfl (by kernel_rfl) (waits haft 0 (by kernel_rfl)); have t34 := hK.new 1 0 _ 34 _ rfl rfl rfl (by kernel_rfl) (waits haft 1 (by kernel_rfl)); (try dsimp only at t33 t34); refine go_in (wanted_all rfl) ?_; intro K hk; clear haft hK hLi; go_simp; refine (HQ.out _).mono ?_; rintro e y ⟨rfl, hb⟩; exact hS.on hk hb rfl
    · intro i hi; simp only [List.mem_cons, List.not_mem_nil, or_false] at hi; rcases hi with rfl | rfl; (first | exact Or.inl (fun _ _ _ => rfl) | exact Or.inr (by kernel_rfl)); (first | exact Or.inl (fun _ _ _ => rfl) | exact Or.inr (by kernel_rfl))
    refine' LinAll.cons _ ?_ ?_ ?_
    rotate_left 1
    · intro g L a x hLi haft hS hK; have t11 := (hK.old 11 (by kernel_rfl)).trans o11; (try dsimp only at t11); refine go_in (wanted_all rfl) ?_; intro K hk; obtain ⟨c0, c1, c2⟩ := (hS.own _ (.head _)).2.get3; clear haft hK hLi; go_simp; exact hS.go hk rfl
    · intro i hi; simp only [List.mem_cons, List.not_mem_nil, or_false] at hi; rcases hi with rfl | rfl; (first | exact Or.inl (fun _ _ _ => rfl) | exact Or.inr (by kernel_rfl)); (first | exact Or.inl (fun _ _ _ => rfl) | exact Or.inr (by kernel_rfl))
    refine' LinAll.cons _ ?_ ?_ ?_
    rotate_left 1
    · intro g L a x hLi haft hS hK; have t12 := (hK.old 12 (by kernel_rfl)).trans o12; (try dsimp only at t12); refine go_in (wanted_all rfl) ?_; intro K hk; obtain ⟨c0, c1, c2⟩ := (hS.own _ (.tail _ (.head _))).2.get3; clear haft hK hLi; go_simp; exact hS.go hk rfl
    · intro i hi; simp only [List.mem_cons, List.not_mem_nil, or_false] at hi; rcases hi with rfl | rfl; (first | exact Or.inl (fun _ _ _ => rfl) | exact Or.inr (by kernel_rfl)); (first | exact Or.inl (fun _ _ _ => rfl) | exact Or.inr (by kernel_rfl))
    refine' LinAll.cons _ ?_ ?_ ?_
    rotate_left 1
    · intro g L a x hLi haft hS hK; have t36 := hK.new 3 1 _ 36 _ rfl rfl rfl (by kernel_rfl) (waits haft 3 (by kernel_rfl)); have t37 := hK.new 4 0 _ 37 _ rfl rfl rfl (by kernel_rfl) (waits haft 4 (by kernel_rfl)); (try dsimp only at t36 t37); refine go_in (wanted_all rfl) ?_; intro K hk; clear haft hK hLi; go_simp; refine (HR.out _).mono ?_; rintro e y ⟨rfl, hb⟩; exact hS.on hk hb rfl
    · intro i hi; simp only [List.mem_cons, List.not_mem_nil, or_false] at hi; rcases hi with rfl | rfl; (first | exact Or.inl (fun _ _ _ => rfl) | exact Or.inr (by kernel_rfl)); (first | exact Or.inl (fun _ _ _ => rfl) | exact Or.inr (by kernel_rfl))
    refine LinAll.cons (fun g => .pointer (some ⟨g 6, 0, none⟩)) ?_ ?_ ?_
    · intro g L a x hLi haft hS hK; refine go_in (wanted_all rfl) ?_; intro K hk; clear haft hK; go_simp; have hq := hk.out (updG g 6 x.heap.size) (x.alloc (.cells #[.int .i64 0, .int .u64 0, .int .u64 0] 24)) (updG_al (by rfl)) (hS.alloc hLi (by rfl)); dsimp only at hq; rw [updG_eq] at hq; exact hq
    · intro i hi; simp only [List.mem_cons, List.not_mem_nil, or_false] at hi; rcases hi with rfl | rfl; exact Or.inr (by kernel_rfl); exact Or.inl (fun g g' h => by simp only [h 6 (by decide)])
    refine LinAll.cons (fun g => .pointer (some ⟨g 7, 0, none⟩)) ?_ ?_ ?_
    · intro g L a x hLi haft hS hK; refine go_in (wanted_all rfl) ?_; intro K hk; clear haft hK; go_simp; have hq := hk.out (updG g 7 x.heap.size) (x.alloc (.cells #[.int .i64 0, .int .u64 0, .int .u64 0] 24)) (updG_al (by rfl)) (hS.alloc hLi (by rfl)); dsimp only at hq; rw [updG_eq] at hq; exact hq
    · intro i hi; simp only [List.mem_cons, List.not_mem_nil, or_false] at hi; rcases hi with rfl | rfl; exact Or.inl (fun g g' h => by simp only [h 7 (by decide)]); exact Or.inr (by kernel_rfl)
    refine LinAll.cons (fun _ => undef) ?_ ?_ ?_
    · intro g L a x hLi haft hS hK; have t14 := hK.new 6 1 _ 14 _ rfl rfl rfl (by kernel_rfl) (waits haft 6 (by kernel_rfl)); have t35 := hK.new 2 5 _ 35 _ rfl rfl rfl (by kernel_rfl) (waits haft 2 (by kernel_rfl)); (try dsimp only at t14 t35); refine go_in (wanted_all rfl) ?_; intro K hk; have hL6 := waits haft 6 (by kernel_rfl); obtain ⟨m1, m2, m3, m4⟩ := hS.made _ (.head _) hL6; dsimp only [List.length_cons, List.length_nil] at m3 m4; obtain ⟨u0, c0⟩ := Option.isSome_iff_exists.1 (m4 0 (by decide)); obtain ⟨u1, c1⟩ := Option.isSome_iff_exists.1 (m4 1 (by decide)); obtain ⟨u2, c2⟩ := Option.isSome_iff_exists.1 (m4 2 (by decide)); clear m1 m2 m4; clear haft hK hLi; go_simp; refine hk.out g _ (fun _ _ => rfl) (hS.store hL6 (.head _) rfl ?_); intro q hq e; simp only [List.mem_cons, List.not_mem_nil, or_false] at hq; rcases hq with rfl | rfl <;> first | rfl | exact absurd e (by simp)
    · intro i hi; simp only [List.mem_cons, List.not_mem_nil, or_false] at hi; rcases hi with rfl | rfl; (first | exact Or.inl (fun _ _ _ => rfl) | exact Or.inr (by kernel_rfl)); (first | exact Or.inl (fun _ _ _ => rfl) | exact Or.inr (by kernel_rfl))
    refine LinAll.cons (fun _ => undef) ?_ ?_ ?_
    · intro g L a x hLi haft hS hK; have t15 := hK.new 7 1 _ 15 _ rfl rfl rfl (by kernel_rfl) (waits haft 7 (by kernel_rfl)); have t38 := hK.new 5 3 _ 38 _ rfl rfl rfl (by kernel_rfl) (waits haft 5 (by kernel_rfl)); (try dsimp only at t15 t38); refine go_in (wanted_all rfl) ?_; intro K hk; have hL7 := waits haft 7 (by kernel_rfl); obtain ⟨m1, m2, m3, m4⟩ := hS.made _ (.tail _ (.head _)) hL7; dsimp only [List.length_cons, List.length_nil] at m3 m4; obtain ⟨u0, c0⟩ := Option.isSome_iff_exists.1 (m4 0 (by decide)); obtain ⟨u1, c1⟩ := Option.isSome_iff_exists.1 (m4 1 (by decide)); obtain ⟨u2, c2⟩ := Option.isSome_iff_exists.1 (m4 2 (by decide)); clear m1 m2 m4; clear haft hK hLi; go_simp; refine hk.out g _ (fun _ _ => rfl) (hS.store hL7 (.tail _ (.head _)) rfl ?_); intro q hq e; simp only [List.mem_cons, List.not_mem_nil, or_false] at hq; rcases hq with rfl | rfl <;> first | rfl | exact absurd e (by simp)
    · intro i hi; simp only [List.mem_cons, List.not_mem_nil, or_false] at hi; rcases hi with rfl | rfl; (first | exact Or.inl (fun _ _ _ => rfl) | exact Or.inr (by kernel_rfl)); (first | exact Or.inl (fun _ _ _ => rfl) | exact Or.inr (by kernel_rfl))
    refine LinAll.nil fun g x hS => ?_
    subst ha0
    simp only [Act.put, List.setIfInBounds_toArray, List.set_cons_zero, List.set_cons_succ]
    clear o11 o12
    have KL := And.intro (hS.own _ (.head _)).2.get3 (And.intro (hS.own _ (.tail _ (.head _))).2.get3 (And.intro (hS.own _ (.tail _ (.tail _ (.head _)))).2.get3 (And.intro (hS.laid _ (.head _) rfl).2.get3 (hS.laid _ (.tail _ (.head _)) rfl).2.get3)))
    have hBq := hS.below
    have hBs := hBq.size
    clear hS
    go_wp2_with fail
    go_meet
    case rel =>
      refine ⟨_, _, rfl, rfl, ⟨?_, ?_, ?_, ?_, ?_, ?_, ?_, ?_, ?_, ?_, ?_, ?_, ?_, ?_, ?_⟩, hBq⟩
      all_goals simp [KL]
  case rest =>
    clear hs1 hs2 hs3 hb1' hb2' hb3' HQ HR HZZ
    obtain ⟨b1, b2, rfl, rfl, KF1, hbl1⟩ := hcut
    have hbs1 := hbl1.size
    go_upto_region 6 with fail
    go_cut [16, 17] from 39 to 44 (fun v16 v17 X => ∃ b3 b4 : Nat, v16 = .pointer (some ⟨b3, 0, none⟩) ∧ v17 = .pointer (some ⟨b4, 0, none⟩) ∧ (X.cell? ⟨w3.heap.size, 0, none⟩ = some (.int .i64 W) ∧ X.cell? ⟨w3.heap.size, 1, none⟩ = some (.int .u64 (LO (n))) ∧ X.cell? ⟨w3.heap.size, 2, none⟩ = some (.int .u64 (HI (n))) ∧ X.cell? ⟨w3.heap.size + 1, 0, none⟩ = some (.int .i64 W) ∧ X.cell? ⟨w3.heap.size + 1, 1, none⟩ = some (.int .u64 (LO (m))) ∧ X.cell? ⟨w3.heap.size + 1, 2, none⟩ = some (.int .u64 (HI (m))) ∧ X.cell? ⟨w3.heap.size + 1 + 1, 0, none⟩ = some (.int .i64 W) ∧ X.cell? ⟨w3.heap.size + 1 + 1, 1, none⟩ = some (.int .u64 (LO (Z))) ∧ X.cell? ⟨w3.heap.size + 1 + 1, 2, none⟩ = some (.int .u64 (HI (Z))) ∧ X.cell? ⟨b1, 0, none⟩ = some (.int .i64 W) ∧ X.cell? ⟨b1, 1, none⟩ = some (.int .u64 (LO (DQ))) ∧ X.cell? ⟨b1, 2, none⟩ = some (.int .u64 (HI (DQ))) ∧ X.cell? ⟨b2, 0, none⟩ = some (.int .i64 W) ∧ X.cell? ⟨b2, 1, none⟩ = some (.int .u64 (LO (DR))) ∧ X.cell? ⟨b2, 2, none⟩ = some (.int .u64 (HI (DR))) ∧ X.cell? ⟨b3, 0, none⟩ = some (.int .i64 W) ∧ X.cell? ⟨b3, 1, none⟩ = some (.int .u64 (LO (DS))) ∧ X.cell? ⟨b3, 2, none⟩ = some (.int .u64 (HI (DS))) ∧ X.cell? ⟨b4, 0, none⟩ = some (.int .i64 W) ∧ X.cell? ⟨b4, 1, none⟩ = some (.int .u64 (LO (DT))) ∧ X.cell? ⟨b4, 2, none⟩ = some (.int .u64 (HI (DT)))) ∧ Below w.heap.size w X)
    case first =>
      refine wp_named fun a0 ha0 => ?_
      have o11 := old_at ha0 (t := 11) rfl
      have o12 := old_at ha0 (t := 12) rfl
      refine wp_region_lin (S := SS w wc.heap.size [(w3.heap.size, [.int .i64 W, .int .u64 (LO (n)), .int .u64 (HI (n))]), (w3.heap.size + 1, [.int .i64 W, .int .u64 (LO (m)), .int .u64 (HI (m))]), (w3.heap.size + 1 + 1, [.int .i64 W, .int .u64 (LO (Z)), .int .u64 (HI (Z))]), (b1, [.int .i64 W, .int .u64 (LO (DQ)), .int .u64 (HI (DQ))]), (b2, [.int .i64 W, .int .u64 (LO (DR)), .int .u64 (HI (DR))])] [(6, 8, [.int .i64 W, .int .u64 (LO (DS)), .int .u64 (HI (DS))]), (7, 9, [.int .i64 W, .int .u64 (LO (DT)), .int .u64 (HI (DT))])]) [6, 7] (fun _ => 0) (by kernel_rfl) (by kernel_rfl) (by rw [← ha0]; kernel_rfl) (SS.start (by first | assumption | go_grown) ?_) ?_
      · intro p hp; simp only [List.mem_cons, List.not_mem_nil, or_false] at hp; rcases hp with rfl | rfl | rfl | rfl | rfl; all_goals exact ⟨At.three (by simp [KF1]) (by simp [KF1]) (by simp [KF1]), by simp⟩
      refine' LinAll.cons _ ?_ ?_ ?_
      rotate_left 1
      · intro g L a x hLi haft hS hK; have t11 := (hK.old 11 (by kernel_rfl)).trans o11; (try dsimp only at t11); refine go_in (wanted_all rfl) ?_; intro K hk; obtain ⟨c0, c1, c2⟩ := (hS.own _ (.head _)).2.get3; clear haft hK hLi; go_simp; exact hS.go hk rfl
      · intro i hi; simp only [List.mem_cons, List.not_mem_nil, or_false] at hi; rcases hi with rfl | rfl; (first | exact Or.inl (fun _ _ _ => rfl) | exact Or.inr (by kernel_rfl)); (first | exact Or.inl (fun _ _ _ => rfl) | exact Or.inr (by kernel_rfl))
      refine' LinAll.cons _ ?_ ?_ ?_
      rotate_left 1
      · intro g L a x hLi haft hS hK; have t12 := (hK.old 12 (by kernel_rfl)).trans o12; (try dsimp only at t12); refine go_in (wanted_all rfl) ?_; intro K hk; obtain ⟨c0, c1, c2⟩ := (hS.own _ (.tail _ (.head _))).2.get3; clear haft hK hLi; go_simp; exact hS.go hk rfl
      · intro i hi; simp only [List.mem_cons, List.not_mem_nil, or_false] at hi; rcases hi with rfl | rfl; (first | exact Or.inl (fun _ _ _ => rfl) | exact Or.inr (by kernel_rfl)); (first | exact Or.inl (fun _ _ _ => rfl) | exact Or.inr (by kernel_rfl))
      refine' LinAll.cons _ ?_ ?_ ?_
      rotate_left 1
      · intro g L a x hLi haft hS hK; have t39 := hK.new 0 1 _ 39 _ rfl rfl rfl (by kernel_rfl) (waits haft 0 (by kernel_rfl)); have t40 := hK.new 1 0 _ 40 _ rfl rfl rfl (by kernel_rfl) (waits haft 1 (by kernel_rfl)); (try dsimp only at t39 t40); refine go_in (wanted_all rfl) ?_; intro K hk; clear haft hK hLi; go_simp; refine (HS.out _).mono ?_; rintro e y ⟨rfl, hb⟩; exact hS.on hk hb rfl
      · intro i hi; simp only [List.mem_cons, List.not_mem_nil, or_false] at hi; rcases hi with rfl | rfl; (first | exact Or.inl (fun _ _ _ => rfl) | exact Or.inr (by kernel_rfl)); (first | exact Or.inl (fun _ _ _ => rfl) | exact Or.inr (by kernel_rfl))
      refine' LinAll.cons _ ?_ ?_ ?_
      rotate_left 1
      · intro g L a x hLi haft hS hK; have t11 := (hK.old 11 (by kernel_rfl)).trans o11; (try dsimp only at t11); refine go_in (wanted_all rfl) ?_; intro K hk; obtain ⟨c0, c1, c2⟩ := (hS.own _ (.head _)).2.get3; clear haft hK hLi; go_simp; exact hS.go hk rfl
      · intro i hi; simp only [List.mem_cons, List.not_mem_nil, or_false] at hi; rcases hi with rfl | rfl; (first | exact Or.inl (fun _ _ _ => rfl) | exact Or.inr (by kernel_rfl)); (first | exact Or.inl (fun _ _ _ => rfl) | exact Or.inr (by kernel_rfl))
      refine' LinAll.cons _ ?_ ?_ ?_
      rotate_left 1
      · intro g L a x hLi haft hS hK; have t12 := (hK.old 12 (by kernel_rfl)).trans o12; (try dsimp only at t12); refine go_in (wanted_all rfl) ?_; intro K hk; obtain ⟨c0, c1, c2⟩ := (hS.own _ (.tail _ (.head _))).2.get3; clear haft hK hLi; go_simp; exact hS.go hk rfl
      · intro i hi; simp only [List.mem_cons, List.not_mem_nil, or_false] at hi; rcases hi with rfl | rfl; (first | exact Or.inl (fun _ _ _ => rfl) | exact Or.inr (by kernel_rfl)); (first | exact Or.inl (fun _ _ _ => rfl) | exact Or.inr (by kernel_rfl))
      refine' LinAll.cons _ ?_ ?_ ?_
      rotate_left 1
      · intro g L a x hLi haft hS hK; have t42 := hK.new 3 1 _ 42 _ rfl rfl rfl (by kernel_rfl) (waits haft 3 (by kernel_rfl)); have t43 := hK.new 4 0 _ 43 _ rfl rfl rfl (by kernel_rfl) (waits haft 4 (by kernel_rfl)); (try dsimp only at t42 t43); refine go_in (wanted_all rfl) ?_; intro K hk; clear haft hK hLi; go_simp; refine (HT.out _).mono ?_; rintro e y ⟨rfl, hb⟩; exact hS.on hk hb rfl
      · intro i hi; simp only [List.mem_cons, List.not_mem_nil, or_false] at hi; rcases hi with rfl | rfl; (first | exact Or.inl (fun _ _ _ => rfl) | exact Or.inr (by kernel_rfl)); (first | exact Or.inl (fun _ _ _ => rfl) | exact Or.inr (by kernel_rfl))
      refine LinAll.cons (fun g => .pointer (some ⟨g 6, 0, none⟩)) ?_ ?_ ?_
      · intro g L a x hLi haft hS hK; refine go_in (wanted_all rfl) ?_; intro K hk; clear haft hK; go_simp; have hq := hk.out (updG g 6 x.heap.size) (x.alloc (.cells #[.int .i64 0, .int .u64 0, .int .u64 0] 24)) (updG_al (by rfl)) (hS.alloc hLi (by rfl)); dsimp only at hq; rw [updG_eq] at hq; exact hq
      · intro i hi; simp only [List.mem_cons, List.not_mem_nil, or_false] at hi; rcases hi with rfl | rfl; exact Or.inr (by kernel_rfl); exact Or.inl (fun g g' h => by simp only [h 6 (by decide)])
      refine LinAll.cons (fun g => .pointer (some ⟨g 7, 0, none⟩)) ?_ ?_ ?_
      · intro g L a x hLi haft hS hK; refine go_in (wanted_all rfl) ?_; intro K hk; clear haft hK; go_simp; have hq := hk.out (updG g 7 x.heap.size) (x.alloc (.cells #[.int .i64 0, .int .u64 0, .int .u64 0] 24)) (updG_al (by rfl)) (hS.alloc hLi (by rfl)); dsimp only at hq; rw [updG_eq] at hq; exact hq
      · intro i hi; simp only [List.mem_cons, List.not_mem_nil, or_false] at hi; rcases hi with rfl | rfl; exact Or.inl (fun g g' h => by simp only [h 7 (by decide)]); exact Or.inr (by kernel_rfl)
      refine LinAll.cons (fun _ => undef) ?_ ?_ ?_
      · intro g L a x hLi haft hS hK; have t16 := hK.new 6 1 _ 16 _ rfl rfl rfl (by kernel_rfl) (waits haft 6 (by kernel_rfl)); have t41 := hK.new 2 5 _ 41 _ rfl rfl rfl (by kernel_rfl) (waits haft 2 (by kernel_rfl)); (try dsimp only at t16 t41); refine go_in (wanted_all rfl) ?_; intro K hk; have hL6 := waits haft 6 (by kernel_rfl); obtain ⟨m1, m2, m3, m4⟩ := hS.made _ (.head _) hL6; dsimp only [List.length_cons, List.length_nil] at m3 m4; obtain ⟨u0, c0⟩ := Option.isSome_iff_exists.1 (m4 0 (by decide)); obtain ⟨u1, c1⟩ := Option.isSome_iff_exists.1 (m4 1 (by decide)); obtain ⟨u2, c2⟩ := Option.isSome_iff_exists.1 (m4 2 (by decide)); clear m1 m2 m4; clear haft hK hLi; go_simp; refine hk.out g _ (fun _ _ => rfl) (hS.store hL6 (.head _) rfl ?_); intro q hq e; simp only [List.mem_cons, List.not_mem_nil, or_false] at hq; rcases hq with rfl | rfl <;> first | rfl | exact absurd e (by simp)
      · intro i hi; simp only [List.mem_cons, List.not_mem_nil, or_false] at hi; rcases hi with rfl | rfl; (first | exact Or.inl (fun _ _ _ => rfl) | exact Or.inr (by kernel_rfl)); (first | exact Or.inl (fun _ _ _ => rfl) | exact Or.inr (by kernel_rfl))
      refine LinAll.cons (fun _ => undef) ?_ ?_ ?_
      · intro g L a x hLi haft hS hK; have t17 := hK.new 7 1 _ 17 _ rfl rfl rfl (by kernel_rfl) (waits haft 7 (by kernel_rfl)); have t44 := hK.new 5 3 _ 44 _ rfl rfl rfl (by kernel_rfl) (waits haft 5 (by kernel_rfl)); (try dsimp only at t17 t44); refine go_in (wanted_all rfl) ?_; intro K hk; have hL7 := waits haft 7 (by kernel_rfl); obtain ⟨m1, m2, m3, m4⟩ := hS.made _ (.tail _ (.head _)) hL7; dsimp only [List.length_cons, List.length_nil] at m3 m4; obtain ⟨u0, c0⟩ := Option.isSome_iff_exists.1 (m4 0 (by decide)); obtain ⟨u1, c1⟩ := Option.isSome_iff_exists.1 (m4 1 (by decide)); obtain ⟨u2, c2⟩ := Option.isSome_iff_exists.1 (m4 2 (by decide)); clear m1 m2 m4; clear haft hK hLi; go_simp; refine hk.out g _ (fun _ _ => rfl) (hS.store hL7 (.tail _ (.head _)) rfl ?_); intro q hq e; simp only [List.mem_cons, List.not_mem_nil, or_false] at hq; rcases hq with rfl | rfl <;> first | rfl | exact absurd e (by simp)
      · intro i hi; simp only [List.mem_cons, List.not_mem_nil, or_false] at hi; rcases hi with rfl | rfl; (first | exact Or.inl (fun _ _ _ => rfl) | exact Or.inr (by kernel_rfl)); (first | exact Or.inl (fun _ _ _ => rfl) | exact Or.inr (by kernel_rfl))
      refine LinAll.nil fun g x hS => ?_
      subst ha0
      simp only [Act.put, List.setIfInBounds_toArray, List.set_cons_zero, List.set_cons_succ]
      clear o11 o12
      have KL := And.intro (hS.own _ (.head _)).2.get3 (And.intro (hS.own _ (.tail _ (.head _))).2.get3 (And.intro (hS.own _ (.tail _ (.tail _ (.head _)))).2.get3 (And.intro (hS.own _ (.tail _ (.tail _ (.tail _ (.head _))))).2.get3 (And.intro (hS.own _ (.tail _ (.tail _ (.tail _ (.tail _ (.head _)))))).2.get3 (And.intro (hS.laid _ (.head _) rfl).2.get3 (hS.laid _ (.tail _ (.head _)) rfl).2.get3)))))
      have hBq := hS.below
      have hBs := hBq.size
      clear hS
      go_wp2_with fail
      go_meet
      case rel =>
        refine ⟨_, _, rfl, rfl, ⟨?_, ?_, ?_, ?_, ?_, ?_, ?_, ?_, ?_, ?_, ?_, ?_, ?_, ?_, ?_, ?_, ?_, ?_, ?_, ?_, ?_⟩, hBq⟩
        all_goals simp [KL]
    case rest =>
      clear KF1 hbl1 hbs1
      obtain ⟨b3, b4, rfl, rfl, KF1, hbl1⟩ := hcut
      have hbs1 := hbl1.size
      clear HS HT
      go_upto_region 7 with fail
      go_cut [51] from 45 to 51 (fun v51 X => v51 = .bool false ∧ (X.cell? ⟨w3.heap.size, 0, none⟩ = some (.int .i64 W) ∧ X.cell? ⟨w3.heap.size, 1, none⟩ = some (.int .u64 (LO (n))) ∧ X.cell? ⟨w3.heap.size, 2, none⟩ = some (.int .u64 (HI (n))) ∧ X.cell? ⟨w3.heap.size + 1, 0, none⟩ = some (.int .i64 W) ∧ X.cell? ⟨w3.heap.size + 1, 1, none⟩ = some (.int .u64 (LO (m))) ∧ X.cell? ⟨w3.heap.size + 1, 2, none⟩ = some (.int .u64 (HI (m))) ∧ X.cell? ⟨w3.heap.size + 1 + 1, 0, none⟩ = some (.int .i64 W) ∧ X.cell? ⟨w3.heap.size + 1 + 1, 1, none⟩ = some (.int .u64 (LO (Z))) ∧ X.cell? ⟨w3.heap.size + 1 + 1, 2, none⟩ = some (.int .u64 (HI (Z))) ∧ X.cell? ⟨b1, 0, none⟩ = some (.int .i64 W) ∧ X.cell? ⟨b1, 1, none⟩ = some (.int .u64 (LO (DQ))) ∧ X.cell? ⟨b1, 2, none⟩ = some (.int .u64 (HI (DQ))) ∧ X.cell? ⟨b2, 0, none⟩ = some (.int .i64 W) ∧ X.cell? ⟨b2, 1, none⟩ = some (.int .u64 (LO (DR))) ∧ X.cell? ⟨b2, 2, none⟩ = some (.int .u64 (HI (DR))) ∧ X.cell? ⟨b3, 0, none⟩ = some (.int .i64 W) ∧ X.cell? ⟨b3, 1, none⟩ = some (.int .u64 (LO (DS))) ∧ X.cell? ⟨b3, 2, none⟩ = some (.int .u64 (HI (DS))) ∧ X.cell? ⟨b4, 0, none⟩ = some (.int .i64 W) ∧ X.cell? ⟨b4, 1, none⟩ = some (.int .u64 (LO (DT))) ∧ X.cell? ⟨b4, 2, none⟩ = some (.int .u64 (HI (DT)))) ∧ Below w.heap.size w X)
      case first =>
        refine wp_named fun a0 ha0 => ?_
        have o11 := old_at ha0 (t := 11) rfl
        have o12 := old_at ha0 (t := 12) rfl
        have o16 := old_at ha0 (t := 16) rfl
        have o17 := old_at ha0 (t := 17) rfl
        refine wp_region_lin (S := SS w wc.heap.size [(w3.heap.size, [.int .i64 W, .int .u64 (LO (n)), .int .u64 (HI (n))]), (w3.heap.size + 1, [.int .i64 W, .int .u64 (LO (m)), .int .u64 (HI (m))]), (w3.heap.size + 1 + 1, [.int .i64 W, .int .u64 (LO (Z)), .int .u64 (HI (Z))]), (b1, [.int .i64 W, .int .u64 (LO (DQ)), .int .u64 (HI (DQ))]), (b2, [.int .i64 W, .int .u64 (LO (DR)), .int .u64 (HI (DR))]), (b3, [.int .i64 W, .int .u64 (LO (DS)), .int .u64 (HI (DS))]), (b4, [.int .i64 W, .int .u64 (LO (DT)), .int .u64 (HI (DT))])] []) [] (fun _ => 0) (by kernel_rfl) (by kernel_rfl) (by rw [← ha0]; kernel_rfl) (SS.start (by first | assumption | go_grown) ?_) ?_
        · intro p hp; simp only [List.mem_cons, List.not_mem_nil, or_false] at hp; rcases hp with rfl | rfl | rfl | rfl | rfl | rfl | rfl; all_goals exact ⟨At.three (by simp [KF1]) (by simp [KF1]) (by simp [KF1]), by simp⟩
        apply LinAll.cons0
        · intro g L a x hLi haft hS hK; have t16 := (hK.old 16 (by kernel_rfl)).trans o16; (try dsimp only at t16); refine go_in (wanted_all rfl) ?_; intro K hk; obtain ⟨c0, c1, c2⟩ := (hS.own _ (.tail _ (.tail _ (.tail _ (.tail _ (.tail _ (.head _))))))).2.get3; clear haft hK hLi; go_simp; exact hS.go hk rfl
        apply LinAll.cons0
        · intro g L a x hLi haft hS hK; have t12 := (hK.old 12 (by kernel_rfl)).trans o12; (try dsimp only at t12); refine go_in (wanted_all rfl) ?_; intro K hk; obtain ⟨c0, c1, c2⟩ := (hS.own _ (.tail _ (.head _))).2.get3; clear haft hK hLi; go_simp; exact hS.go hk rfl
        apply LinAll.cons0
        · intro g L a x hLi haft hS hK; have t45 := hK.new 0 1 _ 45 _ rfl rfl rfl (by kernel_rfl) (waits haft 0 (by kernel_rfl)); have t46 := hK.new 1 0 _ 46 _ rfl rfl rfl (by kernel_rfl) (waits haft 1 (by kernel_rfl)); (try dsimp only at t45 t46); refine go_in (wanted_all rfl) ?_; intro K hk; clear haft hK hLi; go_simp; refine (HSB.out _).mono ?_; rintro e y ⟨rfl, hb⟩; exact hS.on hk hb rfl
        apply LinAll.cons0
        · intro g L a x hLi haft hS hK; have t17 := (hK.old 17 (by kernel_rfl)).trans o17; (try dsimp only at t17); refine go_in (wanted_all rfl) ?_; intro K hk; obtain ⟨c0, c1, c2⟩ := (hS.own _ (.tail _ (.tail _ (.tail _ (.tail _ (.tail _ (.tail _ (.head _)))))))).2.get3; clear haft hK hLi; go_simp; exact hS.go hk rfl
        apply LinAll.cons0
        · intro g L a x hLi haft hS hK; have t47 := hK.new 2 1 _ 47 _ rfl rfl rfl (by kernel_rfl) (waits haft 2 (by kernel_rfl)); have t48 := hK.new 3 0 _ 48 _ rfl rfl rfl (by kernel_rfl) (waits haft 3 (by kernel_rfl)); (try dsimp only at t47 t48); refine go_in (wanted_all rfl) ?_; intro K hk; clear haft hK hLi; go_simp; refine (HSA.out _).mono ?_; rintro e y ⟨rfl, hb⟩; exact hS.on hk hb rfl
        apply LinAll.cons0
        · intro g L a x hLi haft hS hK; have t11 := (hK.old 11 (by kernel_rfl)).trans o11; (try dsimp only at t11); refine go_in (wanted_all rfl) ?_; intro K hk; obtain ⟨c0, c1, c2⟩ := (hS.own _ (.head _)).2.get3; clear haft hK hLi; go_simp; exact hS.go hk rfl
        apply LinAll.cons0
        · intro g L a x hLi haft hS hK; have t49 := hK.new 4 1 _ 49 _ rfl rfl rfl (by kernel_rfl) (waits haft 4 (by kernel_rfl)); have t50 := hK.new 5 0 _ 50 _ rfl rfl rfl (by kernel_rfl) (waits haft 5 (by kernel_rfl)); (try dsimp only at t49 t50); refine go_in (wanted_all rfl) ?_; intro K hk; clear haft hK hLi; go_simp; exact hS.go hk rfl
        refine LinAll.nil fun g x hS => ?_
        subst ha0
        simp only [Act.put, List.setIfInBounds_toArray, List.set_cons_zero, List.set_cons_succ]
        clear o11 o12 o16 o17
        have KL := And.intro (hS.own _ (.head _)).2.get3 (And.intro (hS.own _ (.tail _ (.head _))).2.get3 (And.intro (hS.own _ (.tail _ (.tail _ (.head _)))).2.get3 (And.intro (hS.own _ (.tail _ (.tail _ (.tail _ (.head _))))).2.get3 (And.intro (hS.own _ (.tail _ (.tail _ (.tail _ (.tail _ (.head _)))))).2.get3 (And.intro (hS.own _ (.tail _ (.tail _ (.tail _ (.tail _ (.tail _ (.head _))))))).2.get3 (hS.own _ (.tail _ (.tail _ (.tail _ (.tail _ (.tail _ (.tail _ (.head _)))))))).2.get3)))))
        have hBq := hS.below
        have hBs := hBq.size
        clear hS
        go_wp2_with fail
        go_meet
        case rel =>
          refine ⟨rfl, ⟨?_, ?_, ?_, ?_, ?_, ?_, ?_, ?_, ?_, ?_, ?_, ?_, ?_, ?_, ?_, ?_, ?_, ?_, ?_, ?_, ?_⟩, hBq⟩
          all_goals simp [KL]
      case rest =>
        clear KF1 hbl1 hbs1
        obtain ⟨rfl, KF1, hbl1⟩ := hcut
        have hbs1 := hbl1.size
        clear HSB HSA
        obtain ⟨eQ, eR, eS, eT, eM, eZ⟩ := HD.out
        clear HD
        by_cases hm0 : m = 0
        · have hbz : eqB m Z = true := eqB_yes (by rw [hm0, eZ])
          obtain ⟨ON, hON⟩ : ∃ x, x = 2 ^ W - 1 - Z := ⟨_, rfl⟩
          have HN : Hid (∀ wx, Calls Try.prog 35 #[.int .i64 10, .agg #[.int .i64 W, .int .u64 (LO (Z)), .int .u64 (HI (Z))]] wx fun e w' => e = .returned (.agg #[.int .i64 W, .int .u64 (LO (ON)), .int .u64 (HI (ON))]) ∧ Below wx.heap.size wx w') := fun wx => by rw [hON]; exact lawone_not (Wd.mk' h1 h2 lZ) wx
          have q1 : eqB DQ ON = true := eqB_yes (by rw [eQ, hON, eZ, hm0]; unfold udiv; simp)
          have q2 : eqB DR n = true := eqB_yes (by rw [eR, hm0]; unfold urem; simp)
          have q3 : eqB DT n = true := eqB_yes (by rw [eT, hm0]; exact srem_zero h1 hn)
          have q4 : eqB DM n = true := eqB_yes (by rw [eM, hm0]; exact smod_zero h1 hn)
          clear hON hm0 eQ eR eS eT eM eZ
          go_wp2_with fail
          refine wp_named fun a0 ha0 => ?_
          have o11 := old_at ha0 (t := 11) rfl
          have o12 := old_at ha0 (t := 12) rfl
          have o13 := old_at ha0 (t := 13) rfl
          have o14 := old_at ha0 (t := 14) rfl
          have o15 := old_at ha0 (t := 15) rfl
          have o17 := old_at ha0 (t := 17) rfl
          refine wp_region_lin (S := SS w _ [(w3.heap.size, [.int .i64 W, .int .u64 (LO (n)), .int .u64 (HI (n))]), (w3.heap.size + 1, [.int .i64 W, .int .u64 (LO (m)), .int .u64 (HI (m))]), (w3.heap.size + 1 + 1, [.int .i64 W, .int .u64 (LO (Z)), .int .u64 (HI (Z))]), (b1, [.int .i64 W, .int .u64 (LO (DQ)), .int .u64 (HI (DQ))]), (b2, [.int .i64 W, .int .u64 (LO (DR)), .int .u64 (HI (DR))]), (b3, [.int .i64 W, .int .u64 (LO (DS)), .int .u64 (HI (DS))]), (b4, [.int .i64 W, .int .u64 (LO (DT)), .int .u64 (HI (DT))])] []) [] (fun _ => 0) (by kernel_rfl) (by kernel_rfl) (by rw [← ha0]; kernel_rfl) (SS.start (by first | assumption | go_grown) ?_) ?_
          · intro p hp; simp only [List.mem_cons, List.not_mem_nil, or_false] at hp; rcases hp with rfl | rfl | rfl | rfl | rfl | rfl | rfl; all_goals exact ⟨At.three (by simp [go_sem, KF1]) (by simp [go_sem, KF1]) (by simp [go_sem, KF1]), by simp⟩
          apply LinAll.cons0
          · intro g L a x hLi haft hS hK; have t14 := (hK.old 14 (by kernel_rfl)).trans o14; (try dsimp only at t14); refine go_in (wanted_all rfl) ?_; intro K hk; obtain ⟨c0, c1, c2⟩ := (hS.own _ (.tail _ (.tail _ (.tail _ (.head _))))).2.get3; clear haft hK hLi; go_simp; exact hS.go hk rfl
          apply LinAll.cons0
          · intro g L a x hLi haft hS hK; have t13 := (hK.old 13 (by kernel_rfl)).trans o13; (try dsimp only at t13); refine go_in (wanted_all rfl) ?_; intro K hk; obtain ⟨c0, c1, c2⟩ := (hS.own _ (.tail _ (.tail _ (.head _)))).2.get3; clear haft hK hLi; go_simp; exact hS.go hk rfl
          apply LinAll.cons0
          · intro g L a x hLi haft hS hK; have t56 := hK.new 1 0 _ 56 _ rfl rfl rfl (by kernel_rfl) (waits haft 1 (by kernel_rfl)); (try dsimp only at t56); refine go_in (wanted_all rfl) ?_; intro K hk; clear haft hK hLi; go_simp; refine (HN.out _).mono ?_; rintro e y ⟨rfl, hb⟩; exact hS.on hk hb rfl
          apply LinAll.cons0
          · intro g L a x hLi haft hS hK; have t55 := hK.new 0 2 _ 55 _ rfl rfl rfl (by kernel_rfl) (waits haft 0 (by kernel_rfl)); have t57 := hK.new 2 0 _ 57 _ rfl rfl rfl (by kernel_rfl) (waits haft 2 (by kernel_rfl)); (try dsimp only at t55 t57); refine go_in (wanted_all rfl) ?_; intro K hk; clear haft hK hLi; go_simp; exact hS.go hk rfl
          apply LinAll.cons0
          · intro g L a x hLi haft hS hK; have t58 := hK.new 3 0 _ 58 _ rfl rfl rfl (by kernel_rfl) (waits haft 3 (by kernel_rfl)); (try dsimp only at t58); refine go_in (wanted_all rfl) ?_; intro K hk; clear haft hK hLi; go_simp; exact hS.go hk rfl
          apply LinAll.cons0
          · intro g L a x hLi haft hS hK; have t15 := (hK.old 15 (by kernel_rfl)).trans o15; have tg := hK.new 4 0 _ 59 _ rfl rfl rfl (by kernel_rfl) (waits haft 4 (by kernel_rfl)); (try dsimp only at t15); refine go_in (wanted_at rfl rfl rfl tg rfl) ?_; intro K hk; obtain ⟨c0, c1, c2⟩ := (hS.own _ (.tail _ (.tail _ (.tail _ (.tail _ (.head _)))))).2.get3; clear haft hK tg hLi; go_simp; exact hS.go hk rfl
          apply LinAll.cons0
          · intro g L a x hLi haft hS hK; have t11 := (hK.old 11 (by kernel_rfl)).trans o11; have tg := hK.new 4 1 _ 59 _ rfl rfl rfl (by kernel_rfl) (waits haft 4 (by kernel_rfl)); (try dsimp only at t11); refine go_in (wanted_at rfl rfl rfl tg rfl) ?_; intro K hk; obtain ⟨c0, c1, c2⟩ := (hS.own _ (.head _)).2.get3; clear haft hK tg hLi; go_simp; exact hS.go hk rfl
          apply LinAll.cons0
          · intro g L a x hLi haft hS hK; have t60 := hK.new 5 1 _ 60 _ rfl rfl rfl (by kernel_rfl) (waits haft 5 (by kernel_rfl)); have t61 := hK.new 6 0 _ 61 _ rfl rfl rfl (by kernel_rfl) (waits haft 6 (by kernel_rfl)); have tg := hK.new 4 2 _ 59 _ rfl rfl rfl (by kernel_rfl) (waits haft 4 (by kernel_rfl)); (try dsimp only at t60 t61); refine go_in (wanted_at rfl rfl rfl tg rfl) ?_; intro K hk; clear haft hK tg hLi; go_simp; exact hS.go hk rfl
          apply LinAll.cons0
          · intro g L a x hLi haft hS hK; have t59 := hK.new 4 3 _ 59 _ rfl rfl rfl (by kernel_rfl) (waits haft 4 (by kernel_rfl)); have t62 := hK.new 7 0 _ 62 _ rfl rfl rfl (by kernel_rfl) (waits haft 7 (by kernel_rfl)); (try dsimp only at t59 t62); refine go_in (wanted_all rfl) ?_; intro K hk; clear haft hK hLi; go_simp; exact hS.go hk rfl
          apply LinAll.cons0
          · intro g L a x hLi haft hS hK; have t63 := hK.new 8 0 _ 63 _ rfl rfl rfl (by kernel_rfl) (waits haft 8 (by kernel_rfl)); (try dsimp only at t63); refine go_in (wanted_all rfl) ?_; intro K hk; clear haft hK hLi; go_simp; exact hS.go hk rfl
          apply LinAll.cons0
          · intro g L a x hLi haft hS hK; have t17 := (hK.old 17 (by kernel_rfl)).trans o17; have tg := hK.new 9 0 _ 64 _ rfl rfl rfl (by kernel_rfl) (waits haft 9 (by kernel_rfl)); (try dsimp only at t17); refine go_in (wanted_at rfl rfl rfl tg rfl) ?_; intro K hk; obtain ⟨c0, c1, c2⟩ := (hS.own _ (.tail _ (.tail _ (.tail _ (.tail _ (.tail _ (.tail _ (.head _)))))))).2.get3; clear haft hK tg hLi; go_simp; exact hS.go hk rfl
          apply LinAll.cons0
          · intro g L a x hLi haft hS hK; have t11 := (hK.old 11 (by kernel_rfl)).trans o11; have tg := hK.new 9 1 _ 64 _ rfl rfl rfl (by kernel_rfl) (waits haft 9 (by kernel_rfl)); (try dsimp only at t11); refine go_in (wanted_at rfl rfl rfl tg rfl) ?_; intro K hk; obtain ⟨c0, c1, c2⟩ := (hS.own _ (.head _)).2.get3; clear haft hK tg hLi; go_simp; exact hS.go hk rfl
          apply LinAll.cons0
          · intro g L a x hLi haft hS hK; have t65 := hK.new 10 1 _ 65 _ rfl rfl rfl (by kernel_rfl) (waits haft 10 (by kernel_rfl)); have t66 := hK.new 11 0 _ 66 _ rfl rfl rfl (by kernel_rfl) (waits haft 11 (by kernel_rfl)); have tg := hK.new 9 2 _ 64 _ rfl rfl rfl (by kernel_rfl) (waits haft 9 (by kernel_rfl)); (try dsimp only at t65 t66); refine go_in (wanted_at rfl rfl rfl tg rfl) ?_; intro K hk; clear haft hK tg hLi; go_simp; exact hS.go hk rfl
          apply LinAll.cons0
          · intro g L a x hLi haft hS hK; have t64 := hK.new 9 3 _ 64 _ rfl rfl rfl (by kernel_rfl) (waits haft 9 (by kernel_rfl)); have t67 := hK.new 12 0 _ 67 _ rfl rfl rfl (by kernel_rfl) (waits haft 12 (by kernel_rfl)); (try dsimp only at t64 t67); refine go_in (wanted_all rfl) ?_; intro K hk; clear haft hK hLi; go_simp; exact hS.go hk rfl
          apply LinAll.cons0
          · intro g L a x hLi haft hS hK; have t68 := hK.new 13 0 _ 68 _ rfl rfl rfl (by kernel_rfl) (waits haft 13 (by kernel_rfl)); (try dsimp only at t68); refine go_in (wanted_all rfl) ?_; intro K hk; clear haft hK hLi; go_simp; exact hS.go hk rfl
          apply LinAll.cons0
          · intro g L a x hLi haft hS hK; have t11 := (hK.old 11 (by kernel_rfl)).trans o11; have tg := hK.new 14 0 _ 69 _ rfl rfl rfl (by kernel_rfl) (waits haft 14 (by kernel_rfl)); (try dsimp only at t11); refine go_in (wanted_at rfl rfl rfl tg rfl) ?_; intro K hk; obtain ⟨c0, c1, c2⟩ := (hS.own _ (.head _)).2.get3; clear haft hK tg hLi; go_simp; exact hS.go hk rfl
          apply LinAll.cons0
          · intro g L a x hLi haft hS hK; have t12 := (hK.old 12 (by kernel_rfl)).trans o12; have tg := hK.new 14 1 _ 69 _ rfl rfl rfl (by kernel_rfl) (waits haft 14 (by kernel_rfl)); (try dsimp only at t12); refine go_in (wanted_at rfl rfl rfl tg rfl) ?_; intro K hk; obtain ⟨c0, c1, c2⟩ := (hS.own _ (.tail _ (.head _))).2.get3; clear haft hK tg hLi; go_simp; exact hS.go hk rfl
          apply LinAll.cons0
          · intro g L a x hLi haft hS hK; have t70 := hK.new 15 1 _ 70 _ rfl rfl rfl (by kernel_rfl) (waits haft 15 (by kernel_rfl)); have t71 := hK.new 16 0 _ 71 _ rfl rfl rfl (by kernel_rfl) (waits haft 16 (by kernel_rfl)); have tg := hK.new 14 2 _ 69 _ rfl rfl rfl (by kernel_rfl) (waits haft 14 (by kernel_rfl)); (try dsimp only at t70 t71); refine go_in (wanted_at rfl rfl rfl tg rfl) ?_; intro K hk; clear haft hK tg hLi; go_simp; refine (HM.out _).mono ?_; rintro e y ⟨rfl, hb⟩; exact hS.on hk hb rfl
          apply LinAll.cons0
          · intro g L a x hLi haft hS hK; have t11 := (hK.old 11 (by kernel_rfl)).trans o11; have tg := hK.new 14 3 _ 69 _ rfl rfl rfl (by kernel_rfl) (waits haft 14 (by kernel_rfl)); (try dsimp only at t11); refine go_in (wanted_at rfl rfl rfl tg rfl) ?_; intro K hk; obtain ⟨c0, c1, c2⟩ := (hS.own _ (.head _)).2.get3; clear haft hK tg hLi; go_simp; exact hS.go hk rfl
          apply LinAll.cons0
          · intro g L a x hLi haft hS hK; have t72 := hK.new 17 1 _ 72 _ rfl rfl rfl (by kernel_rfl) (waits haft 17 (by kernel_rfl)); have t73 := hK.new 18 0 _ 73 _ rfl rfl rfl (by kernel_rfl) (waits haft 18 (by kernel_rfl)); have tg := hK.new 14 4 _ 69 _ rfl rfl rfl (by kernel_rfl) (waits haft 14 (by kernel_rfl)); (try dsimp only at t72 t73); refine go_in (wanted_at rfl rfl rfl tg rfl) ?_; intro K hk; clear haft hK tg hLi; go_simp; exact hS.go hk rfl
          apply LinAll.cons0
          · intro g L a x hLi haft hS hK; have t69 := hK.new 14 5 _ 69 _ rfl rfl rfl (by kernel_rfl) (waits haft 14 (by kernel_rfl)); have t74 := hK.new 19 0 _ 74 _ rfl rfl rfl (by kernel_rfl) (waits haft 19 (by kernel_rfl)); (try dsimp only at t69 t74); refine go_in (wanted_all rfl) ?_; intro K hk; clear haft hK hLi; go_simp; exact hS.go hk rfl
          apply LinAll.cons0
          · intro g L a x hLi haft hS hK; have t75 := hK.new 20 0 _ 75 _ rfl rfl rfl (by kernel_rfl) (waits haft 20 (by kernel_rfl)); (try dsimp only at t75); refine go_in (wanted_all rfl) ?_; intro K hk; clear haft hK hLi; go_simp; exact hS.go hk rfl
          refine LinAll.nil fun g x hS => ?_
          subst ha0
          simp only [Act.put, List.setIfInBounds_toArray, List.set_cons_zero, List.set_cons_succ]
          clear o11 o12 o13 o14 o15 o17
          have KL := And.intro (hS.own _ (.head _)).2.get3 (And.intro (hS.own _ (.tail _ (.head _))).2.get3 (And.intro (hS.own _ (.tail _ (.tail _ (.head _)))).2.get3 (And.intro (hS.own _ (.tail _ (.tail _ (.tail _ (.head _))))).2.get3 (And.intro (hS.own _ (.tail _ (.tail _ (.tail _ (.tail _ (.head _)))))).2.get3 (And.intro (hS.own _ (.tail _ (.tail _ (.tail _ (.tail _ (.tail _ (.head _))))))).2.get3 (hS.own _ (.tail _ (.tail _ (.tail _ (.tail _ (.tail _ (.tail _ (.head _)))))))).2.get3)))))
          have hBq := hS.below
          have hBs := hBq.size
          clear hS
          go_wp2_with fail
          go_ret
          exact ⟨rfl, by go_grown⟩
        · have hbz : eqB m Z = false := eqB_no (by rw [eZ]; exact hm0)
          obtain ⟨QB, hQB⟩ : ∃ x, x = lowop 8 W DQ m := ⟨_, rfl⟩
          have lQB : QB < 2 ^ W := by rw [hQB]; exact lowop_lt lQ hm
          have HQB : Hid (∀ wx, Calls Try.prog 34 #[.int .i64 20, .agg #[.int .i64 W, .int .u64 (LO (DQ)), .int .u64 (HI (DQ))], .agg #[.int .i64 W, .int .u64 (LO (m)), .int .u64 (HI (m))]] wx fun e w' => e = .returned (.agg #[.int .i64 W, .int .u64 (LO (QB)), .int .u64 (HI (QB))]) ∧ Below wx.heap.size wx w') := fun wx => by rw [hQB]; exact do_low (k := 8) (op := 20) rfl (by decide) (Wd.mk' h1 h2 lQ) (Wd.mk' h1 h2 hm) wx
          have HQA : Hid (∀ wx, Calls Try.prog 34 #[.int .i64 18, .agg #[.int .i64 W, .int .u64 (LO (QB)), .int .u64 (HI (QB))], .agg #[.int .i64 W, .int .u64 (LO (DR)), .int .u64 (HI (DR))]] wx fun e w' => e = .returned (.agg #[.int .i64 W, .int .u64 (LO (n)), .int .u64 (HI (n))]) ∧ Below wx.heap.size wx w') := fun wx => by
            have h := do_low (k := 6) (op := 18) rfl (by decide) (Wd.mk' h1 h2 lQB) (Wd.mk' h1 h2 lR) wx
            rw [hQB, eQ, eR, div_make hn hm0, ← eQ, ← eR, ← hQB] at h
            exact h
          have HUL : Hid (∀ wx, Calls Try.prog 34 #[.int .i64 29, .agg #[.int .i64 W, .int .u64 (LO (DR)), .int .u64 (HI (DR))], .agg #[.int .i64 W, .int .u64 (LO (m)), .int .u64 (HI (m))]] wx fun e w' => e = .returned (.agg #[.int .i64 0, .int .u64 (LO (b01 true)), .int .u64 (HI (b01 true))]) ∧ Below wx.heap.size wx w') := fun wx => by
            have h := do_cmp (k := 0) (op := 29) rfl (by decide) (Wd.mk' h1 h2 lR) (Wd.mk' h1 h2 hm) wx
            rw [show cmpv 0 W DR m = true from ltB_yes (by rw [eR]; exact urem_below hm0)] at h
            exact h
          have hbn := neq_b
          have HX : Hid ((DM = Z ∨ DM.testBit (W - 1) = m.testBit (W - 1)) ∧ (DT = Z ∨ DT.testBit (W - 1) = n.testBit (W - 1)) ∧ (DM = DT ∨ lowop 6 W DT m = DM)) := by
            rw [eZ]
            refine ⟨?_, ?_, ?_⟩
            · by_cases h : DM = 0
              · exact Or.inl h
              · rw [eM] at h ⊢; exact Or.inr (smod_sign h1 hn hm hm0 h)
            · by_cases h : DT = 0
              · exact Or.inl h
              · rw [eT] at h ⊢; exact Or.inr (srem_sign h1 hn h)
            · rw [eM, eT]; exact smod_or
          clear hQB hm0 eQ eR eS eT eM eZ
          go_upto_region 11 with fail
          go_cut [89] from 76 to 89 (fun v89 X => v89 = .bool false ∧ (X.cell? ⟨w3.heap.size, 0, none⟩ = some (.int .i64 W) ∧ X.cell? ⟨w3.heap.size, 1, none⟩ = some (.int .u64 (LO (n))) ∧ X.cell? ⟨w3.heap.size, 2, none⟩ = some (.int .u64 (HI (n))) ∧ X.cell? ⟨w3.heap.size + 1, 0, none⟩ = some (.int .i64 W) ∧ X.cell? ⟨w3.heap.size + 1, 1, none⟩ = some (.int .u64 (LO (m))) ∧ X.cell? ⟨w3.heap.size + 1, 2, none⟩ = some (.int .u64 (HI (m))) ∧ X.cell? ⟨w3.heap.size + 1 + 1, 0, none⟩ = some (.int .i64 W) ∧ X.cell? ⟨w3.heap.size + 1 + 1, 1, none⟩ = some (.int .u64 (LO (Z))) ∧ X.cell? ⟨w3.heap.size + 1 + 1, 2, none⟩ = some (.int .u64 (HI (Z))) ∧ X.cell? ⟨b1, 0, none⟩ = some (.int .i64 W) ∧ X.cell? ⟨b1, 1, none⟩ = some (.int .u64 (LO (DQ))) ∧ X.cell? ⟨b1, 2, none⟩ = some (.int .u64 (HI (DQ))) ∧ X.cell? ⟨b2, 0, none⟩ = some (.int .i64 W) ∧ X.cell? ⟨b2, 1, none⟩ = some (.int .u64 (LO (DR))) ∧ X.cell? ⟨b2, 2, none⟩ = some (.int .u64 (HI (DR))) ∧ X.cell? ⟨b3, 0, none⟩ = some (.int .i64 W) ∧ X.cell? ⟨b3, 1, none⟩ = some (.int .u64 (LO (DS))) ∧ X.cell? ⟨b3, 2, none⟩ = some (.int .u64 (HI (DS))) ∧ X.cell? ⟨b4, 0, none⟩ = some (.int .i64 W) ∧ X.cell? ⟨b4, 1, none⟩ = some (.int .u64 (LO (DT))) ∧ X.cell? ⟨b4, 2, none⟩ = some (.int .u64 (HI (DT)))) ∧ Below w.heap.size w X)
          case first =>
            refine wp_named fun a0 ha0 => ?_
            have o11 := old_at ha0 (t := 11) rfl
            have o12 := old_at ha0 (t := 12) rfl
            have o14 := old_at ha0 (t := 14) rfl
            have o15 := old_at ha0 (t := 15) rfl
            refine wp_region_lin (S := SS w _ [(w3.heap.size, [.int .i64 W, .int .u64 (LO (n)), .int .u64 (HI (n))]), (w3.heap.size + 1, [.int .i64 W, .int .u64 (LO (m)), .int .u64 (HI (m))]), (w3.heap.size + 1 + 1, [.int .i64 W, .int .u64 (LO (Z)), .int .u64 (HI (Z))]), (b1, [.int .i64 W, .int .u64 (LO (DQ)), .int .u64 (HI (DQ))]), (b2, [.int .i64 W, .int .u64 (LO (DR)), .int .u64 (HI (DR))]), (b3, [.int .i64 W, .int .u64 (LO (DS)), .int .u64 (HI (DS))]), (b4, [.int .i64 W, .int .u64 (LO (DT)), .int .u64 (HI (DT))])] []) [] (fun _ => 0) (by kernel_rfl) (by kernel_rfl) (by rw [← ha0]; kernel_rfl) (SS.start (by first | assumption | go_grown) ?_) ?_
            · intro p hp; simp only [List.mem_cons, List.not_mem_nil, or_false] at hp; rcases hp with rfl | rfl | rfl | rfl | rfl | rfl | rfl; all_goals exact ⟨At.three (by simp [go_sem, KF1]) (by simp [go_sem, KF1]) (by simp [go_sem, KF1]), by simp⟩
            apply LinAll.cons0
            · intro g L a x hLi haft hS hK; have t14 := (hK.old 14 (by kernel_rfl)).trans o14; (try dsimp only at t14); refine go_in (wanted_all rfl) ?_; intro K hk; obtain ⟨c0, c1, c2⟩ := (hS.own _ (.tail _ (.tail _ (.tail _ (.head _))))).2.get3; clear haft hK hLi; go_simp; exact hS.go hk rfl
            apply LinAll.cons0
            · intro g L a x hLi haft hS hK; have t12 := (hK.old 12 (by kernel_rfl)).trans o12; (try dsimp only at t12); refine go_in (wanted_all rfl) ?_; intro K hk; obtain ⟨c0, c1, c2⟩ := (hS.own _ (.tail _ (.head _))).2.get3; clear haft hK hLi; go_simp; exact hS.go hk rfl
            apply LinAll.cons0
            · intro g L a x hLi haft hS hK; have t76 := hK.new 0 1 _ 76 _ rfl rfl rfl (by kernel_rfl) (waits haft 0 (by kernel_rfl)); have t77 := hK.new 1 0 _ 77 _ rfl rfl rfl (by kernel_rfl) (waits haft 1 (by kernel_rfl)); (try dsimp only at t76 t77); refine go_in (wanted_all rfl) ?_; intro K hk; clear haft hK hLi; go_simp; refine (HQB.out _).mono ?_; rintro e y ⟨rfl, hb⟩; exact hS.on hk hb rfl
            apply LinAll.cons0
            · intro g L a x hLi haft hS hK; have t15 := (hK.old 15 (by kernel_rfl)).trans o15; (try dsimp only at t15); refine go_in (wanted_all rfl) ?_; intro K hk; obtain ⟨c0, c1, c2⟩ := (hS.own _ (.tail _ (.tail _ (.tail _ (.tail _ (.head _)))))).2.get3; clear haft hK hLi; go_simp; exact hS.go hk rfl
            apply LinAll.cons0
            · intro g L a x hLi haft hS hK; have t78 := hK.new 2 1 _ 78 _ rfl rfl rfl (by kernel_rfl) (waits haft 2 (by kernel_rfl)); have t79 := hK.new 3 0 _ 79 _ rfl rfl rfl (by kernel_rfl) (waits haft 3 (by kernel_rfl)); (try dsimp only at t78 t79); refine go_in (wanted_all rfl) ?_; intro K hk; clear haft hK hLi; go_simp; refine (HQA.out _).mono ?_; rintro e y ⟨rfl, hb⟩; exact hS.on hk hb rfl
            apply LinAll.cons0
            · intro g L a x hLi haft hS hK; have t11 := (hK.old 11 (by kernel_rfl)).trans o11; (try dsimp only at t11); refine go_in (wanted_all rfl) ?_; intro K hk; obtain ⟨c0, c1, c2⟩ := (hS.own _ (.head _)).2.get3; clear haft hK hLi; go_simp; exact hS.go hk rfl
            apply LinAll.cons0
            · intro g L a x hLi haft hS hK; have t80 := hK.new 4 1 _ 80 _ rfl rfl rfl (by kernel_rfl) (waits haft 4 (by kernel_rfl)); have t81 := hK.new 5 0 _ 81 _ rfl rfl rfl (by kernel_rfl) (waits haft 5 (by kernel_rfl)); (try dsimp only at t80 t81); refine go_in (wanted_all rfl) ?_; intro K hk; clear haft hK hLi; go_simp; exact hS.go hk rfl
            apply LinAll.cons0
            · intro g L a x hLi haft hS hK; have t82 := hK.new 6 0 _ 82 _ rfl rfl rfl (by kernel_rfl) (waits haft 6 (by kernel_rfl)); (try dsimp only at t82); refine go_in (wanted_all rfl) ?_; intro K hk; clear haft hK hLi; go_simp; exact hS.go hk rfl
            apply LinAll.cons0
            · intro g L a x hLi haft hS hK; have t15 := (hK.old 15 (by kernel_rfl)).trans o15; have tg := hK.new 7 0 _ 83 _ rfl rfl rfl (by kernel_rfl) (waits haft 7 (by kernel_rfl)); (try dsimp only at t15); refine go_in (wanted_at rfl rfl rfl tg rfl) ?_; intro K hk; obtain ⟨c0, c1, c2⟩ := (hS.own _ (.tail _ (.tail _ (.tail _ (.tail _ (.head _)))))).2.get3; clear haft hK tg hLi; go_simp; exact hS.go hk rfl
            apply LinAll.cons0
            · intro g L a x hLi haft hS hK; have t12 := (hK.old 12 (by kernel_rfl)).trans o12; have tg := hK.new 7 1 _ 83 _ rfl rfl rfl (by kernel_rfl) (waits haft 7 (by kernel_rfl)); (try dsimp only at t12); refine go_in (wanted_at rfl rfl rfl tg rfl) ?_; intro K hk; obtain ⟨c0, c1, c2⟩ := (hS.own _ (.tail _ (.head _))).2.get3; clear haft hK tg hLi; go_simp; exact hS.go hk rfl
            apply LinAll.cons0
            · intro g L a x hLi haft hS hK; have t84 := hK.new 8 1 _ 84 _ rfl rfl rfl (by kernel_rfl) (waits haft 8 (by kernel_rfl)); have t85 := hK.new 9 0 _ 85 _ rfl rfl rfl (by kernel_rfl) (waits haft 9 (by kernel_rfl)); have tg := hK.new 7 2 _ 83 _ rfl rfl rfl (by kernel_rfl) (waits haft 7 (by kernel_rfl)); (try dsimp only at t84 t85); refine go_in (wanted_at rfl rfl rfl tg rfl) ?_; intro K hk; clear haft hK tg hLi; go_simp; refine (HUL.out _).mono ?_; rintro e y ⟨rfl, hb⟩; exact hS.on hk hb rfl
            apply LinAll.cons0
            · intro g L a x hLi haft hS hK; have tg := hK.new 7 3 _ 83 _ rfl rfl rfl (by kernel_rfl) (waits haft 7 (by kernel_rfl)); refine go_in (wanted_at rfl rfl rfl tg rfl) ?_; intro K hk; clear haft hK tg hLi; go_simp; refine (bool_b true _).mono ?_; rintro e y ⟨rfl, hb⟩; exact hS.on hk hb rfl
            apply LinAll.cons0
            · intro g L a x hLi haft hS hK; have t86 := hK.new 10 1 _ 86 _ rfl rfl rfl (by kernel_rfl) (waits haft 10 (by kernel_rfl)); have t87 := hK.new 11 0 _ 87 _ rfl rfl rfl (by kernel_rfl) (waits haft 11 (by kernel_rfl)); have tg := hK.new 7 4 _ 83 _ rfl rfl rfl (by kernel_rfl) (waits haft 7 (by kernel_rfl)); (try dsimp only at t86 t87); refine go_in (wanted_at rfl rfl rfl tg rfl) ?_; intro K hk; clear haft hK tg hLi; go_simp; exact hS.go hk rfl
            apply LinAll.cons0
            · intro g L a x hLi haft hS hK; have t83 := hK.new 7 5 _ 83 _ rfl rfl rfl (by kernel_rfl) (waits haft 7 (by kernel_rfl)); have t88 := hK.new 12 0 _ 88 _ rfl rfl rfl (by kernel_rfl) (waits haft 12 (by kernel_rfl)); (try dsimp only at t83 t88); refine go_in (wanted_all rfl) ?_; intro K hk; clear haft hK hLi; go_simp; exact hS.go hk rfl
            refine LinAll.nil fun g x hS => ?_
            subst ha0
            simp only [Act.put, List.setIfInBounds_toArray, List.set_cons_zero, List.set_cons_succ]
            clear o11 o12 o14 o15
            have KL := And.intro (hS.own _ (.head _)).2.get3 (And.intro (hS.own _ (.tail _ (.head _))).2.get3 (And.intro (hS.own _ (.tail _ (.tail _ (.head _)))).2.get3 (And.intro (hS.own _ (.tail _ (.tail _ (.tail _ (.head _))))).2.get3 (And.intro (hS.own _ (.tail _ (.tail _ (.tail _ (.tail _ (.head _)))))).2.get3 (And.intro (hS.own _ (.tail _ (.tail _ (.tail _ (.tail _ (.tail _ (.head _))))))).2.get3 (hS.own _ (.tail _ (.tail _ (.tail _ (.tail _ (.tail _ (.tail _ (.head _)))))))).2.get3)))))
            have hBq := hS.below
            have hBs := hBq.size
            clear hS
            go_wp2_with fail
            go_meet
            case rel =>
              refine ⟨rfl, ⟨?_, ?_, ?_, ?_, ?_, ?_, ?_, ?_, ?_, ?_, ?_, ?_, ?_, ?_, ?_, ?_, ?_, ?_, ?_, ?_, ?_⟩, hBq⟩
              all_goals simp [KL]
          case rest =>
            clear KF1 hbl1 hbs1
            obtain ⟨rfl, KF1, hbl1⟩ := hcut
            have hbs1 := hbl1.size
            clear HQB HQA HUL hbn
            go_wp2_with fail
            refine (HM.out _).mono ?_
            rintro e w4 ⟨rfl, hb4⟩
            have hb4' := below_step (w := w) (by go_grown) hb4
            have hs4 := hb4'.size
            have KF4 : w4.cell? ⟨w3.heap.size, 0, none⟩ = some (.int .i64 W) ∧ w4.cell? ⟨w3.heap.size, 1, none⟩ = some (.int .u64 (LO (n))) ∧ w4.cell? ⟨w3.heap.size, 2, none⟩ = some (.int .u64 (HI (n))) ∧ w4.cell? ⟨w3.heap.size + 1, 0, none⟩ = some (.int .i64 W) ∧ w4.cell? ⟨w3.heap.size + 1, 1, none⟩ = some (.int .u64 (LO (m))) ∧ w4.cell? ⟨w3.heap.size + 1, 2, none⟩ = some (.int .u64 (HI (m))) ∧ w4.cell? ⟨w3.heap.size + 1 + 1, 0, none⟩ = some (.int .i64 W) ∧ w4.cell? ⟨w3.heap.size + 1 + 1, 1, none⟩ = some (.int .u64 (LO (Z))) ∧ w4.cell? ⟨w3.heap.size + 1 + 1, 2, none⟩ = some (.int .u64 (HI (Z))) ∧ w4.cell? ⟨b1, 0, none⟩ = some (.int .i64 W) ∧ w4.cell? ⟨b1, 1, none⟩ = some (.int .u64 (LO (DQ))) ∧ w4.cell? ⟨b1, 2, none⟩ = some (.int .u64 (HI (DQ))) ∧ w4.cell? ⟨b2, 0, none⟩ = some (.int .i64 W) ∧ w4.cell? ⟨b2, 1, none⟩ = some (.int .u64 (LO (DR))) ∧ w4.cell? ⟨b2, 2, none⟩ = some (.int .u64 (HI (DR))) ∧ w4.cell? ⟨b3, 0, none⟩ = some (.int .i64 W) ∧ w4.cell? ⟨b3, 1, none⟩ = some (.int .u64 (LO (DS))) ∧ w4.cell? ⟨b3, 2, none⟩ = some (.int .u64 (HI (DS))) ∧ w4.cell? ⟨b4, 0, none⟩ = some (.int .i64 W) ∧ w4.cell? ⟨b4, 1, none⟩ = some (.int .u64 (LO (DT))) ∧ w4.cell? ⟨b4, 2, none⟩ = some (.int .u64 (HI (DT))) := ⟨keep_cell hb4 (by first | (simp [go_sem]; done) | (simp [go_sem, KF1]; done) | (simp [go_sem, KF1, World.cell?_alloc_some]; done) | (simp [go_sem, KF1, frozen?_alloc_cells]; done)), keep_cell hb4 (by first | (simp [go_sem]; done) | (simp [go_sem, KF1]; done) | (simp [go_sem, KF1, World.cell?_alloc_some]; done) | (simp [go_sem, KF1, frozen?_alloc_cells]; done)), keep_cell hb4 (by first | (simp [go_sem]; done) | (simp [go_sem, KF1]; done) | (simp [go_sem, KF1, World.cell?_alloc_some]; done) | (simp [go_sem, KF1, frozen?_alloc_cells]; done)), keep_cell hb4 (by first | (simp [go_sem]; done) | (simp [go_sem, KF1]; done) | (simp [go_sem, KF1, World.cell?_alloc_some]; done) | (simp [go_sem, KF1, frozen?_alloc_cells]; done)), keep_cell hb4 (by first | (simp [go_sem]; done) | (simp [go_sem, KF1]; done) | (simp [go_sem, KF1, World.cell?_alloc_some]; done) | (simp [go_sem, KF1, frozen?_alloc_cells]; done)), keep_cell hb4 (by first | (simp [go_sem]; done) | (simp [go_sem, KF1]; done) | (simp [go_sem, KF1, World.cell?_alloc_some]; done) | (simp [go_sem, KF1, frozen?_alloc_cells]; done)), keep_cell hb4 (by first | (simp [go_sem]; done) | (simp [go_sem, KF1]; done) | (simp [go_sem, KF1, World.cell?_alloc_some]; done) | (simp [go_sem, KF1, frozen?_alloc_cells]; done)), keep_cell hb4 (by first | (simp [go_sem]; done) | (simp [go_sem, KF1]; done) | (simp [go_sem, KF1, World.cell?_alloc_some]; done) | (simp [go_sem, KF1, frozen?_alloc_cells]; done)), keep_cell hb4 (by first | (simp [go_sem]; done) | (simp [go_sem, KF1]; done) | (simp [go_sem, KF1, World.cell?_alloc_some]; done) | (simp [go_sem, KF1, frozen?_alloc_cells]; done)), keep_cell hb4 (by first | (simp [go_sem]; done) | (simp [go_sem, KF1]; done) | (simp [go_sem, KF1, World.cell?_alloc_some]; done) | (simp [go_sem, KF1, frozen?_alloc_cells]; done)), keep_cell hb4 (by first | (simp [go_sem]; done) | (simp [go_sem, KF1]; done) | (simp [go_sem, KF1, World.cell?_alloc_some]; done) | (simp [go_sem, KF1, frozen?_alloc_cells]; done)), keep_cell hb4 (by first | (simp [go_sem]; done) | (simp [go_sem, KF1]; done) | (simp [go_sem, KF1, World.cell?_alloc_some]; done) | (simp [go_sem, KF1, frozen?_alloc_cells]; done)), keep_cell hb4 (by first | (simp [go_sem]; done) | (simp [go_sem, KF1]; done) | (simp [go_sem, KF1, World.cell?_alloc_some]; done) | (simp [go_sem, KF1, frozen?_alloc_cells]; done)), keep_cell hb4 (by first | (simp [go_sem]; done) | (simp [go_sem, KF1]; done) | (simp [go_sem, KF1, World.cell?_alloc_some]; done) | (simp [go_sem, KF1, frozen?_alloc_cells]; done)), keep_cell hb4 (by first | (simp [go_sem]; done) | (simp [go_sem, KF1]; done) | (simp [go_sem, KF1, World.cell?_alloc_some]; done) | (simp [go_sem, KF1, frozen?_alloc_cells]; done)), keep_cell hb4 (by first | (simp [go_sem]; done) | (simp [go_sem, KF1]; done) | (simp [go_sem, KF1, World.cell?_alloc_some]; done) | (simp [go_sem, KF1, frozen?_alloc_cells]; done)), keep_cell hb4 (by first | (simp [go_sem]; done) | (simp [go_sem, KF1]; done) | (simp [go_sem, KF1, World.cell?_alloc_some]; done) | (simp [go_sem, KF1, frozen?_alloc_cells]; done)), keep_cell hb4 (by first | (simp [go_sem]; done) | (simp [go_sem, KF1]; done) | (simp [go_sem, KF1, World.cell?_alloc_some]; done) | (simp [go_sem, KF1, frozen?_alloc_cells]; done)), keep_cell hb4 (by first | (simp [go_sem]; done) | (simp [go_sem, KF1]; done) | (simp [go_sem, KF1, World.cell?_alloc_some]; done) | (simp [go_sem, KF1, frozen?_alloc_cells]; done)), keep_cell hb4 (by first | (simp [go_sem]; done) | (simp [go_sem, KF1]; done) | (simp [go_sem, KF1, World.cell?_alloc_some]; done) | (simp [go_sem, KF1, frozen?_alloc_cells]; done)), keep_cell hb4 (by first | (simp [go_sem]; done) | (simp [go_sem, KF1]; done) | (simp [go_sem, KF1, World.cell?_alloc_some]; done) | (simp [go_sem, KF1, frozen?_alloc_cells]; done))⟩; have KF4z0 : w3.heap.size < w4.heap.size := World.block_lt_of_cell? _ _ KF4.1; have KF4z1 : w3.heap.size + 1 < w4.heap.size := World.block_lt_of_cell? _ _ KF4.2.2.2.1; have KF4z2 : w3.heap.size + 1 + 1 < w4.heap.size := World.block_lt_of_cell? _ _ KF4.2.2.2.2.2.2.1; have KF4z3 : b1 < w4.heap.size := World.block_lt_of_cell? _ _ KF4.2.2.2.2.2.2.2.2.2.1; have KF4z4 : b2 < w4.heap.size := World.block_lt_of_cell? _ _ KF4.2.2.2.2.2.2.2.2.2.2.2.2.1; have KF4z5 : b3 < w4.heap.size := World.block_lt_of_cell? _ _ KF4.2.2.2.2.2.2.2.2.2.2.2.2.2.2.2.1; have KF4z6 : b4 < w4.heap.size := World.block_lt_of_cell? _ _ KF4.2.2.2.2.2.2.2.2.2.2.2.2.2.2.2.2.2.2.1
            clear hb4 KF1
            clear HM
            go_upto_region 14 with fail
            obtain ⟨bM, hbM⟩ : ∃ b, DM.testBit (W - 1) = b := ⟨_, rfl⟩
            obtain ⟨bB, hbB⟩ : ∃ b, m.testBit (W - 1) = b := ⟨_, rfl⟩
            obtain ⟨bT, hbT⟩ : ∃ b, DT.testBit (W - 1) = b := ⟨_, rfl⟩
            obtain ⟨bA, hbA⟩ : ∃ b, n.testBit (W - 1) = b := ⟨_, rfl⟩
            have MM : Hid (∀ wx, Calls Try.prog 36 #[.agg #[.int .i64 W, .int .u64 (LO (DM)), .int .u64 (HI (DM))]] wx fun e w' => e = .returned (.bool bM) ∧ Below wx.heap.size wx w') := fun wx => minus_is hbM (Wd.mk' h1 h2 lM) wx
            have MB : Hid (∀ wx, Calls Try.prog 36 #[.agg #[.int .i64 W, .int .u64 (LO (m)), .int .u64 (HI (m))]] wx fun e w' => e = .returned (.bool bB) ∧ Below wx.heap.size wx w') := fun wx => minus_is hbB (Wd.mk' h1 h2 hm) wx
            have MT : Hid (∀ wx, Calls Try.prog 36 #[.agg #[.int .i64 W, .int .u64 (LO (DT)), .int .u64 (HI (DT))]] wx fun e w' => e = .returned (.bool bT) ∧ Below wx.heap.size wx w') := fun wx => minus_is hbT (Wd.mk' h1 h2 lT) wx
            have MA : Hid (∀ wx, Calls Try.prog 36 #[.agg #[.int .i64 W, .int .u64 (LO (n)), .int .u64 (HI (n))]] wx fun e w' => e = .returned (.bool bA) ∧ Below wx.heap.size wx w') := fun wx => minus_is hbA (Wd.mk' h1 h2 hn) wx
            have HY : Hid ((DM = Z ∨ bM = bB) ∧ (DT = Z ∨ bT = bA) ∧ (DM = DT ∨ lowop 6 W DT m = DM)) := by rw [← hbM, ← hbB, ← hbT, ← hbA]; exact HX.out
            clear HX hbM hbB hbT hbA
            go_cut [19] from 93 to 97 (fun v19 X => v19 = .bool (bM == bB) ∧ (X.cell? ⟨w3.heap.size, 0, none⟩ = some (.int .i64 W) ∧ X.cell? ⟨w3.heap.size, 1, none⟩ = some (.int .u64 (LO (n))) ∧ X.cell? ⟨w3.heap.size, 2, none⟩ = some (.int .u64 (HI (n))) ∧ X.cell? ⟨w3.heap.size + 1, 0, none⟩ = some (.int .i64 W) ∧ X.cell? ⟨w3.heap.size + 1, 1, none⟩ = some (.int .u64 (LO (m))) ∧ X.cell? ⟨w3.heap.size + 1, 2, none⟩ = some (.int .u64 (HI (m))) ∧ X.cell? ⟨w3.heap.size + 1 + 1, 0, none⟩ = some (.int .i64 W) ∧ X.cell? ⟨w3.heap.size + 1 + 1, 1, none⟩ = some (.int .u64 (LO (Z))) ∧ X.cell? ⟨w3.heap.size + 1 + 1, 2, none⟩ = some (.int .u64 (HI (Z))) ∧ X.cell? ⟨b1, 0, none⟩ = some (.int .i64 W) ∧ X.cell? ⟨b1, 1, none⟩ = some (.int .u64 (LO (DQ))) ∧ X.cell? ⟨b1, 2, none⟩ = some (.int .u64 (HI (DQ))) ∧ X.cell? ⟨b2, 0, none⟩ = some (.int .i64 W) ∧ X.cell? ⟨b2, 1, none⟩ = some (.int .u64 (LO (DR))) ∧ X.cell? ⟨b2, 2, none⟩ = some (.int .u64 (HI (DR))) ∧ X.cell? ⟨b3, 0, none⟩ = some (.int .i64 W) ∧ X.cell? ⟨b3, 1, none⟩ = some (.int .u64 (LO (DS))) ∧ X.cell? ⟨b3, 2, none⟩ = some (.int .u64 (HI (DS))) ∧ X.cell? ⟨b4, 0, none⟩ = some (.int .i64 W) ∧ X.cell? ⟨b4, 1, none⟩ = some (.int .u64 (LO (DT))) ∧ X.cell? ⟨b4, 2, none⟩ = some (.int .u64 (HI (DT))) ∧ X.cell? ⟨w4.heap.size, 0, none⟩ = some (.int .i64 W) ∧ X.cell? ⟨w4.heap.size, 1, none⟩ = some (.int .u64 (LO (DM))) ∧ X.cell? ⟨w4.heap.size, 2, none⟩ = some (.int .u64 (HI (DM)))) ∧ Below w.heap.size w X)
            case first =>
              refine wp_named fun a0 ha0 => ?_
              have o12 := old_at ha0 (t := 12) rfl
              have o18 := old_at ha0 (t := 18) rfl
              refine wp_region_lin (S := SS w _ [(w3.heap.size, [.int .i64 W, .int .u64 (LO (n)), .int .u64 (HI (n))]), (w3.heap.size + 1, [.int .i64 W, .int .u64 (LO (m)), .int .u64 (HI (m))]), (w3.heap.size + 1 + 1, [.int .i64 W, .int .u64 (LO (Z)), .int .u64 (HI (Z))]), (b1, [.int .i64 W, .int .u64 (LO (DQ)), .int .u64 (HI (DQ))]), (b2, [.int .i64 W, .int .u64 (LO (DR)), .int .u64 (HI (DR))]), (b3, [.int .i64 W, .int .u64 (LO (DS)), .int .u64 (HI (DS))]), (b4, [.int .i64 W, .int .u64 (LO (DT)), .int .u64 (HI (DT))]), (w4.heap.size, [.int .i64 W, .int .u64 (LO (DM)), .int .u64 (HI (DM))])] []) [] (fun _ => 0) (by kernel_rfl) (by kernel_rfl) (by rw [← ha0]; kernel_rfl) (SS.start (by first | assumption | go_grown) ?_) ?_
              · intro p hp; simp only [List.mem_cons, List.not_mem_nil, or_false] at hp; rcases hp with rfl | rfl | rfl | rfl | rfl | rfl | rfl | rfl; all_goals exact ⟨At.three (by simp [go_sem, KF4, KF4z0, KF4z1, KF4z2, KF4z3, KF4z4, KF4z5, KF4z6]) (by simp [go_sem, KF4, KF4z0, KF4z1, KF4z2, KF4z3, KF4z4, KF4z5, KF4z6]) (by simp [go_sem, KF4, KF4z0, KF4z1, KF4z2, KF4z3, KF4z4, KF4z5, KF4z6]), by simp⟩
              apply LinAll.cons0
              · intro g L a x hLi haft hS hK; have t18 := (hK.old 18 (by kernel_rfl)).trans o18; (try dsimp only at t18); refine go_in (wanted_all rfl) ?_; intro K hk; obtain ⟨c0, c1, c2⟩ := (hS.own _ (.tail _ (.tail _ (.tail _ (.tail _ (.tail _ (.tail _ (.tail _ (.head _))))))))).2.get3; clear haft hK hLi; go_simp; exact hS.go hk rfl
              apply LinAll.cons0
              · intro g L a x hLi haft hS hK; have t93 := hK.new 0 0 _ 93 _ rfl rfl rfl (by kernel_rfl) (waits haft 0 (by kernel_rfl)); (try dsimp only at t93); refine go_in (wanted_all rfl) ?_; intro K hk; clear haft hK hLi; go_simp; refine (MM.out _).mono ?_; rintro e y ⟨rfl, hb⟩; exact hS.on hk hb rfl
              apply LinAll.cons0
              · intro g L a x hLi haft hS hK; have t12 := (hK.old 12 (by kernel_rfl)).trans o12; (try dsimp only at t12); refine go_in (wanted_all rfl) ?_; intro K hk; obtain ⟨c0, c1, c2⟩ := (hS.own _ (.tail _ (.head _))).2.get3; clear haft hK hLi; go_simp; exact hS.go hk rfl
              apply LinAll.cons0
              · intro g L a x hLi haft hS hK; have t95 := hK.new 2 0 _ 95 _ rfl rfl rfl (by kernel_rfl) (waits haft 2 (by kernel_rfl)); (try dsimp only at t95); refine go_in (wanted_all rfl) ?_; intro K hk; clear haft hK hLi; go_simp; refine (MB.out _).mono ?_; rintro e y ⟨rfl, hb⟩; exact hS.on hk hb rfl
              apply LinAll.cons0
              · intro g L a x hLi haft hS hK; have t94 := hK.new 1 2 _ 94 _ rfl rfl rfl (by kernel_rfl) (waits haft 1 (by kernel_rfl)); have t96 := hK.new 3 0 _ 96 _ rfl rfl rfl (by kernel_rfl) (waits haft 3 (by kernel_rfl)); (try dsimp only at t94 t96); refine go_in (wanted_all rfl) ?_; intro K hk; clear haft hK hLi; go_simp; exact hS.go hk rfl
              apply LinAll.cons0
              · intro g L a x hLi haft hS hK; have t97 := hK.new 4 0 _ 97 _ rfl rfl rfl (by kernel_rfl) (waits haft 4 (by kernel_rfl)); (try dsimp only at t97); refine go_in (wanted_all rfl) ?_; intro K hk; clear haft hK hLi; go_simp; exact hS.go hk rfl
              refine LinAll.nil fun g x hS => ?_
              subst ha0
              simp only [Act.put, List.setIfInBounds_toArray, List.set_cons_zero, List.set_cons_succ]
              clear o12 o18
              have KL := And.intro (hS.own _ (.head _)).2.get3 (And.intro (hS.own _ (.tail _ (.head _))).2.get3 (And.intro (hS.own _ (.tail _ (.tail _ (.head _)))).2.get3 (And.intro (hS.own _ (.tail _ (.tail _ (.tail _ (.head _))))).2.get3 (And.intro (hS.own _ (.tail _ (.tail _ (.tail _ (.tail _ (.head _)))))).2.get3 (And.intro (hS.own _ (.tail _ (.tail _ (.tail _ (.tail _ (.tail _ (.head _))))))).2.get3 (And.intro (hS.own _ (.tail _ (.tail _ (.tail _ (.tail _ (.tail _ (.tail _ (.head _)))))))).2.get3 (hS.own _ (.tail _ (.tail _ (.tail _ (.tail _ (.tail _ (.tail _ (.tail _ (.head _))))))))).2.get3))))))
              have hBq := hS.below
              have hBs := hBq.size
              clear hS
              go_wp2_with fail
              go_meet
              case rel =>
                refine ⟨rfl, ⟨?_, ?_, ?_, ?_, ?_, ?_, ?_, ?_, ?_, ?_, ?_, ?_, ?_, ?_, ?_, ?_, ?_, ?_, ?_, ?_, ?_, ?_, ?_, ?_⟩, hBq⟩
                all_goals simp [KL]
            case rest =>
              clear KF4 KF4z0 KF4z1 KF4z2 KF4z3 KF4z4 KF4z5 KF4z6 hbl1 hbs1 MM MB
              obtain ⟨rfl, KF1, hbl1⟩ := hcut
              have hbs1 := hbl1.size
              obtain ⟨y1, y2, y3⟩ := HY.out
              clear HY
              obtain ⟨SM, hSM⟩ : ∃ x, x = lowop 6 W DT m := ⟨_, rfl⟩
              have HSM : Hid (∀ wx, Calls Try.prog 34 #[.int .i64 18, .agg #[.int .i64 W, .int .u64 (LO (DT)), .int .u64 (HI (DT))], .agg #[.int .i64 W, .int .u64 (LO (m)), .int .u64 (HI (m))]] wx fun e w' => e = .returned (.agg #[.int .i64 W, .int .u64 (LO (SM)), .int .u64 (HI (SM))]) ∧ Below wx.heap.size wx w') := fun wx => by rw [hSM]; exact do_low (k := 6) (op := 18) rfl (by decide) (Wd.mk' h1 h2 lT) (Wd.mk' h1 h2 hm) wx
              rw [← hSM] at y3
              clear hSM
              have Y1 : Hid _ := y1
              have Y2 : Hid _ := y2
              have Y3 : Hid _ := y3
              clear y1 y2 y3
              go_upto_region 15 with fail
              by_cases p1 : DM = Z
              · skip
                have e1 : eqB DM Z = true := eqB_yes p1
                clear p1 Y1
                by_cases p2 : DT = Z
                · have e2 : eqB DT Z = true := eqB_yes p2
                  clear p2 Y2
                  by_cases p3 : DM = DT
                  · have e3 : eqB DM DT = true := eqB_yes p3
                    clear p3 Y3
                    refine wp_named fun a0 ha0 => ?_
                    have o11 := old_at ha0 (t := 11) rfl
                    have o12 := old_at ha0 (t := 12) rfl
                    have o13 := old_at ha0 (t := 13) rfl
                    have o17 := old_at ha0 (t := 17) rfl
                    have o18 := old_at ha0 (t := 18) rfl
                    have o19 := old_at ha0 (t := 19) rfl
                    refine wp_region_lin (S := SS w _ [(w3.heap.size, [.int .i64 W, .int .u64 (LO (n)), .int .u64 (HI (n))]), (w3.heap.size + 1, [.int .i64 W, .int .u64 (LO (m)), .int .u64 (HI (m))]), (w3.heap.size + 1 + 1, [.int .i64 W, .int .u64 (LO (Z)), .int .u64 (HI (Z))]), (b1, [.int .i64 W, .int .u64 (LO (DQ)), .int .u64 (HI (DQ))]), (b2, [.int .i64 W, .int .u64 (LO (DR)), .int .u64 (HI (DR))]), (b3, [.int .i64 W, .int .u64 (LO (DS)), .int .u64 (HI (DS))]), (b4, [.int .i64 W, .int .u64 (LO (DT)), .int .u64 (HI (DT))]), (w4.heap.size, [.int .i64 W, .int .u64 (LO (DM)), .int .u64 (HI (DM))])] []) [] (fun _ => 0) (by kernel_rfl) (by kernel_rfl) (by rw [← ha0]; kernel_rfl) (SS.start (by first | assumption | go_grown) ?_) ?_
                    · intro p hp; simp only [List.mem_cons, List.not_mem_nil, or_false] at hp; rcases hp with rfl | rfl | rfl | rfl | rfl | rfl | rfl | rfl; all_goals exact ⟨At.three (by simp [go_sem, KF1]) (by simp [go_sem, KF1]) (by simp [go_sem, KF1]), by simp⟩
                    apply LinAll.cons0
                    · intro g L a x hLi haft hS hK; have t18 := (hK.old 18 (by kernel_rfl)).trans o18; (try dsimp only at t18); refine go_in (wanted_all rfl) ?_; intro K hk; obtain ⟨c0, c1, c2⟩ := (hS.own _ (.tail _ (.tail _ (.tail _ (.tail _ (.tail _ (.tail _ (.tail _ (.head _))))))))).2.get3; clear haft hK hLi; go_simp; exact hS.go hk rfl
                    apply LinAll.cons0
                    · intro g L a x hLi haft hS hK; have t13 := (hK.old 13 (by kernel_rfl)).trans o13; (try dsimp only at t13); refine go_in (wanted_all rfl) ?_; intro K hk; obtain ⟨c0, c1, c2⟩ := (hS.own _ (.tail _ (.tail _ (.head _)))).2.get3; clear haft hK hLi; go_simp; exact hS.go hk rfl
                    apply LinAll.cons0
                    · intro g L a x hLi haft hS hK; have t98 := hK.new 0 1 _ 98 _ rfl rfl rfl (by kernel_rfl) (waits haft 0 (by kernel_rfl)); have t99 := hK.new 1 0 _ 99 _ rfl rfl rfl (by kernel_rfl) (waits haft 1 (by kernel_rfl)); (try dsimp only at t98 t99); refine go_in (wanted_all rfl) ?_; intro K hk; clear haft hK hLi; go_simp; exact hS.go hk rfl
                    apply LinAll.cons0
                    · intro g L a x hLi haft hS hK; have t100 := hK.new 2 0 _ 100 _ rfl rfl rfl (by kernel_rfl) (waits haft 2 (by kernel_rfl)); (try dsimp only at t100); refine go_in (wanted_all rfl) ?_; intro K hk; clear haft hK hLi; go_simp; exact hS.go hk rfl
                    apply LinAll.cons0
                    · intro g L a x hLi haft hS hK; have t19 := (hK.old 19 (by kernel_rfl)).trans o19; have tg := hK.new 3 0 _ 101 _ rfl rfl rfl (by kernel_rfl) (waits haft 3 (by kernel_rfl)); (try dsimp only at t19); exact go_out (wanted_at rfl rfl rfl tg rfl) ⟨rfl, hS.same rfl⟩
                    apply LinAll.cons0
                    · intro g L a x hLi haft hS hK; have t101 := hK.new 3 1 _ 101 _ rfl rfl rfl (by kernel_rfl) (waits haft 3 (by kernel_rfl)); have t102 := hK.new 4 0 _ 102 _ rfl rfl rfl (by kernel_rfl) (waits haft 4 (by kernel_rfl)); (try dsimp only at t101 t102); refine go_in (wanted_all rfl) ?_; intro K hk; clear haft hK hLi; go_simp; exact hS.go hk rfl
                    apply LinAll.cons0
                    · intro g L a x hLi haft hS hK; have t103 := hK.new 5 0 _ 103 _ rfl rfl rfl (by kernel_rfl) (waits haft 5 (by kernel_rfl)); (try dsimp only at t103); refine go_in (wanted_all rfl) ?_; intro K hk; clear haft hK hLi; go_simp; exact hS.go hk rfl
                    apply LinAll.cons0
                    · intro g L a x hLi haft hS hK; have t17 := (hK.old 17 (by kernel_rfl)).trans o17; have tg := hK.new 6 0 _ 104 _ rfl rfl rfl (by kernel_rfl) (waits haft 6 (by kernel_rfl)); (try dsimp only at t17); refine go_in (wanted_at rfl rfl rfl tg rfl) ?_; intro K hk; obtain ⟨c0, c1, c2⟩ := (hS.own _ (.tail _ (.tail _ (.tail _ (.tail _ (.tail _ (.tail _ (.head _)))))))).2.get3; clear haft hK tg hLi; go_simp; exact hS.go hk rfl
                    apply LinAll.cons0
                    · intro g L a x hLi haft hS hK; have t13 := (hK.old 13 (by kernel_rfl)).trans o13; have tg := hK.new 6 1 _ 104 _ rfl rfl rfl (by kernel_rfl) (waits haft 6 (by kernel_rfl)); (try dsimp only at t13); refine go_in (wanted_at rfl rfl rfl tg rfl) ?_; intro K hk; obtain ⟨c0, c1, c2⟩ := (hS.own _ (.tail _ (.tail _ (.head _)))).2.get3; clear haft hK tg hLi; go_simp; exact hS.go hk rfl
                    apply LinAll.cons0
                    · intro g L a x hLi haft hS hK; have t105 := hK.new 7 1 _ 105 _ rfl rfl rfl (by kernel_rfl) (waits haft 7 (by kernel_rfl)); have t106 := hK.new 8 0 _ 106 _ rfl rfl rfl (by kernel_rfl) (waits haft 8 (by kernel_rfl)); have tg := hK.new 6 2 _ 104 _ rfl rfl rfl (by kernel_rfl) (waits haft 6 (by kernel_rfl)); (try dsimp only at t105 t106); refine go_in (wanted_at rfl rfl rfl tg rfl) ?_; intro K hk; clear haft hK tg hLi; go_simp; exact hS.go hk rfl
                    apply LinAll.cons0
                    · intro g L a x hLi haft hS hK; have t107 := hK.new 9 0 _ 107 _ rfl rfl rfl (by kernel_rfl) (waits haft 9 (by kernel_rfl)); have tg := hK.new 6 3 _ 104 _ rfl rfl rfl (by kernel_rfl) (waits haft 6 (by kernel_rfl)); (try dsimp only at t107); refine go_in (wanted_at rfl rfl rfl tg rfl) ?_; intro K hk; clear haft hK tg hLi; go_simp; exact hS.go hk rfl
                    apply LinAll.cons0
                    · intro g L a x hLi haft hS hK; have t17 := (hK.old 17 (by kernel_rfl)).trans o17; have tg := hK.new 10 0 _ 108 _ rfl rfl rfl (by kernel_rfl) (waits haft 10 (by kernel_rfl)); (try dsimp only at t17); exact go_out (wanted_at rfl rfl rfl tg rfl) ⟨rfl, hS.same rfl⟩
                    apply LinAll.cons0
                    · intro g L a x hLi haft hS hK; have t109 := hK.new 11 0 _ 109 _ rfl rfl rfl (by kernel_rfl) (waits haft 11 (by kernel_rfl)); have tg := hK.new 10 1 _ 108 _ rfl rfl rfl (by kernel_rfl) (waits haft 10 (by kernel_rfl)); (try dsimp only at t109); exact go_out (wanted_at rfl rfl rfl tg rfl) ⟨rfl, hS.same rfl⟩
                    apply LinAll.cons0
                    · intro g L a x hLi haft hS hK; have t11 := (hK.old 11 (by kernel_rfl)).trans o11; have tg := hK.new 10 2 _ 108 _ rfl rfl rfl (by kernel_rfl) (waits haft 10 (by kernel_rfl)); (try dsimp only at t11); exact go_out (wanted_at rfl rfl rfl tg rfl) ⟨rfl, hS.same rfl⟩
                    apply LinAll.cons0
                    · intro g L a x hLi haft hS hK; have t111 := hK.new 13 0 _ 111 _ rfl rfl rfl (by kernel_rfl) (waits haft 13 (by kernel_rfl)); have tg := hK.new 10 3 _ 108 _ rfl rfl rfl (by kernel_rfl) (waits haft 10 (by kernel_rfl)); (try dsimp only at t111); exact go_out (wanted_at rfl rfl rfl tg rfl) ⟨rfl, hS.same rfl⟩
                    apply LinAll.cons0
                    · intro g L a x hLi haft hS hK; have t110 := hK.new 12 2 _ 110 _ rfl rfl rfl (by kernel_rfl) (waits haft 12 (by kernel_rfl)); have t112 := hK.new 14 0 _ 112 _ rfl rfl rfl (by kernel_rfl) (waits haft 14 (by kernel_rfl)); have tg := hK.new 10 4 _ 108 _ rfl rfl rfl (by kernel_rfl) (waits haft 10 (by kernel_rfl)); (try dsimp only at t110 t112); exact go_out (wanted_at rfl rfl rfl tg rfl) ⟨rfl, hS.same rfl⟩
                    apply LinAll.cons0
                    · intro g L a x hLi haft hS hK; have t108 := hK.new 10 5 _ 108 _ rfl rfl rfl (by kernel_rfl) (waits haft 10 (by kernel_rfl)); have t113 := hK.new 15 0 _ 113 _ rfl rfl rfl (by kernel_rfl) (waits haft 15 (by kernel_rfl)); have tg := hK.new 6 9 _ 104 _ rfl rfl rfl (by kernel_rfl) (waits haft 6 (by kernel_rfl)); (try dsimp only at t108 t113); refine go_in (wanted_at rfl rfl rfl tg rfl) ?_; intro K hk; clear haft hK tg hLi; go_simp; exact hS.go hk rfl
                    apply LinAll.cons0
                    · intro g L a x hLi haft hS hK; have t104 := hK.new 6 10 _ 104 _ rfl rfl rfl (by kernel_rfl) (waits haft 6 (by kernel_rfl)); have t114 := hK.new 16 0 _ 114 _ rfl rfl rfl (by kernel_rfl) (waits haft 16 (by kernel_rfl)); (try dsimp only at t104 t114); refine go_in (wanted_all rfl) ?_; intro K hk; clear haft hK hLi; go_simp; exact hS.go hk rfl
                    apply LinAll.cons0
                    · intro g L a x hLi haft hS hK; have t115 := hK.new 17 0 _ 115 _ rfl rfl rfl (by kernel_rfl) (waits haft 17 (by kernel_rfl)); (try dsimp only at t115); refine go_in (wanted_all rfl) ?_; intro K hk; clear haft hK hLi; go_simp; exact hS.go hk rfl
                    apply LinAll.cons0
                    · intro g L a x hLi haft hS hK; have t18 := (hK.old 18 (by kernel_rfl)).trans o18; have tg := hK.new 18 0 _ 116 _ rfl rfl rfl (by kernel_rfl) (waits haft 18 (by kernel_rfl)); (try dsimp only at t18); refine go_in (wanted_at rfl rfl rfl tg rfl) ?_; intro K hk; obtain ⟨c0, c1, c2⟩ := (hS.own _ (.tail _ (.tail _ (.tail _ (.tail _ (.tail _ (.tail _ (.tail _ (.head _))))))))).2.get3; clear haft hK tg hLi; go_simp; exact hS.go hk rfl
                    apply LinAll.cons0
                    · intro g L a x hLi haft hS hK; have t17 := (hK.old 17 (by kernel_rfl)).trans o17; have tg := hK.new 18 1 _ 116 _ rfl rfl rfl (by kernel_rfl) (waits haft 18 (by kernel_rfl)); (try dsimp only at t17); refine go_in (wanted_at rfl rfl rfl tg rfl) ?_; intro K hk; obtain ⟨c0, c1, c2⟩ := (hS.own _ (.tail _ (.tail _ (.tail _ (.tail _ (.tail _ (.tail _ (.head _)))))))).2.get3; clear haft hK tg hLi; go_simp; exact hS.go hk rfl
                    apply LinAll.cons0
                    · intro g L a x hLi haft hS hK; have t117 := hK.new 19 1 _ 117 _ rfl rfl rfl (by kernel_rfl) (waits haft 19 (by kernel_rfl)); have t118 := hK.new 20 0 _ 118 _ rfl rfl rfl (by kernel_rfl) (waits haft 20 (by kernel_rfl)); have tg := hK.new 18 2 _ 116 _ rfl rfl rfl (by kernel_rfl) (waits haft 18 (by kernel_rfl)); (try dsimp only at t117 t118); refine go_in (wanted_at rfl rfl rfl tg rfl) ?_; intro K hk; clear haft hK tg hLi; go_simp; exact hS.go hk rfl
                    apply LinAll.cons0
                    · intro g L a x hLi haft hS hK; have t119 := hK.new 21 0 _ 119 _ rfl rfl rfl (by kernel_rfl) (waits haft 21 (by kernel_rfl)); have tg := hK.new 18 3 _ 116 _ rfl rfl rfl (by kernel_rfl) (waits haft 18 (by kernel_rfl)); (try dsimp only at t119); refine go_in (wanted_at rfl rfl rfl tg rfl) ?_; intro K hk; clear haft hK tg hLi; go_simp; exact hS.go hk rfl
                    apply LinAll.cons0
                    · intro g L a x hLi haft hS hK; have t17 := (hK.old 17 (by kernel_rfl)).trans o17; have tg := hK.new 22 0 _ 120 _ rfl rfl rfl (by kernel_rfl) (waits haft 22 (by kernel_rfl)); (try dsimp only at t17); exact go_out (wanted_at rfl rfl rfl tg rfl) ⟨rfl, hS.same rfl⟩
                    apply LinAll.cons0
                    · intro g L a x hLi haft hS hK; have t12 := (hK.old 12 (by kernel_rfl)).trans o12; have tg := hK.new 22 1 _ 120 _ rfl rfl rfl (by kernel_rfl) (waits haft 22 (by kernel_rfl)); (try dsimp only at t12); exact go_out (wanted_at rfl rfl rfl tg rfl) ⟨rfl, hS.same rfl⟩
                    apply LinAll.cons0
                    · intro g L a x hLi haft hS hK; have t121 := hK.new 23 1 _ 121 _ rfl rfl rfl (by kernel_rfl) (waits haft 23 (by kernel_rfl)); have t122 := hK.new 24 0 _ 122 _ rfl rfl rfl (by kernel_rfl) (waits haft 24 (by kernel_rfl)); have tg := hK.new 22 2 _ 120 _ rfl rfl rfl (by kernel_rfl) (waits haft 22 (by kernel_rfl)); (try dsimp only at t121 t122); exact go_out (wanted_at rfl rfl rfl tg rfl) ⟨rfl, hS.same rfl⟩
                    apply LinAll.cons0
                    · intro g L a x hLi haft hS hK; have t18 := (hK.old 18 (by kernel_rfl)).trans o18; have tg := hK.new 22 3 _ 120 _ rfl rfl rfl (by kernel_rfl) (waits haft 22 (by kernel_rfl)); (try dsimp only at t18); exact go_out (wanted_at rfl rfl rfl tg rfl) ⟨rfl, hS.same rfl⟩
                    apply LinAll.cons0
                    · intro g L a x hLi haft hS hK; have t123 := hK.new 25 1 _ 123 _ rfl rfl rfl (by kernel_rfl) (waits haft 25 (by kernel_rfl)); have t124 := hK.new 26 0 _ 124 _ rfl rfl rfl (by kernel_rfl) (waits haft 26 (by kernel_rfl)); have tg := hK.new 22 4 _ 120 _ rfl rfl rfl (by kernel_rfl) (waits haft 22 (by kernel_rfl)); (try dsimp only at t123 t124); exact go_out (wanted_at rfl rfl rfl tg rfl) ⟨rfl, hS.same rfl⟩
                    apply LinAll.cons0
                    · intro g L a x hLi haft hS hK; have t120 := hK.new 22 5 _ 120 _ rfl rfl rfl (by kernel_rfl) (waits haft 22 (by kernel_rfl)); have t125 := hK.new 27 0 _ 125 _ rfl rfl rfl (by kernel_rfl) (waits haft 27 (by kernel_rfl)); have tg := hK.new 18 9 _ 116 _ rfl rfl rfl (by kernel_rfl) (waits haft 18 (by kernel_rfl)); (try dsimp only at t120 t125); refine go_in (wanted_at rfl rfl rfl tg rfl) ?_; intro K hk; clear haft hK tg hLi; go_simp; exact hS.go hk rfl
                    apply LinAll.cons0
                    · intro g L a x hLi haft hS hK; have t116 := hK.new 18 10 _ 116 _ rfl rfl rfl (by kernel_rfl) (waits haft 18 (by kernel_rfl)); have t126 := hK.new 28 0 _ 126 _ rfl rfl rfl (by kernel_rfl) (waits haft 28 (by kernel_rfl)); (try dsimp only at t116 t126); refine go_in (wanted_all rfl) ?_; intro K hk; clear haft hK hLi; go_simp; exact hS.go hk rfl
                    apply LinAll.cons0
                    · intro g L a x hLi haft hS hK; have t127 := hK.new 29 0 _ 127 _ rfl rfl rfl (by kernel_rfl) (waits haft 29 (by kernel_rfl)); (try dsimp only at t127); refine go_in (wanted_all rfl) ?_; intro K hk; clear haft hK hLi; go_simp; exact hS.go hk rfl
                    refine LinAll.nil fun g x hS => ?_
                    subst ha0
                    simp only [Act.put, List.setIfInBounds_toArray, List.set_cons_zero, List.set_cons_succ]
                    clear o11 o12 o13 o17 o18 o19
                    have KL := And.intro (hS.own _ (.head _)).2.get3 (And.intro (hS.own _ (.tail _ (.head _))).2.get3 (And.intro (hS.own _ (.tail _ (.tail _ (.head _)))).2.get3 (And.intro (hS.own _ (.tail _ (.tail _ (.tail _ (.head _))))).2.get3 (And.intro (hS.own _ (.tail _ (.tail _ (.tail _ (.tail _ (.head _)))))).2.get3 (And.intro (hS.own _ (.tail _ (.tail _ (.tail _ (.tail _ (.tail _ (.head _))))))).2.get3 (And.intro (hS.own _ (.tail _ (.tail _ (.tail _ (.tail _ (.tail _ (.tail _ (.head _)))))))).2.get3 (hS.own _ (.tail _ (.tail _ (.tail _ (.tail _ (.tail _ (.tail _ (.tail _ (.head _))))))))).2.get3))))))
                    have hBq := hS.below
                    have hBs := hBq.size
                    clear hS
                    go_wp2_with fail
                    go_ret
                    exact ⟨rfl, by go_grown⟩
                  · have e3 : eqB DM DT = false := eqB_no p3
                    have e3b : eqB SM DM = true := eqB_yes (Y3.out.resolve_left p3)
                    clear p3 Y3
                    refine wp_named fun a0 ha0 => ?_
                    have o11 := old_at ha0 (t := 11) rfl
                    have o12 := old_at ha0 (t := 12) rfl
                    have o13 := old_at ha0 (t := 13) rfl
                    have o17 := old_at ha0 (t := 17) rfl
                    have o18 := old_at ha0 (t := 18) rfl
                    have o19 := old_at ha0 (t := 19) rfl
                    refine wp_region_lin (S := SS w _ [(w3.heap.size, [.int .i64 W, .int .u64 (LO (n)), .int .u64 (HI (n))]), (w3.heap.size + 1, [.int .i64 W, .int .u64 (LO (m)), .int .u64 (HI (m))]), (w3.heap.size + 1 + 1, [.int .i64 W, .int .u64 (LO (Z)), .int .u64 (HI (Z))]), (b1, [.int .i64 W, .int .u64 (LO (DQ)), .int .u64 (HI (DQ))]), (b2, [.int .i64 W, .int .u64 (LO (DR)), .int .u64 (HI (DR))]), (b3, [.int .i64 W, .int .u64 (LO (DS)), .int .u64 (HI (DS))]), (b4, [.int .i64 W, .int .u64 (LO (DT)), .int .u64 (HI (DT))]), (w4.heap.size, [.int .i64 W, .int .u64 (LO (DM)), .int .u64 (HI (DM))])] []) [] (fun _ => 0) (by kernel_rfl) (by kernel_rfl) (by rw [← ha0]; kernel_rfl) (SS.start (by first | assumption | go_grown) ?_) ?_
                    · intro p hp; simp only [List.mem_cons, List.not_mem_nil, or_false] at hp; rcases hp with rfl | rfl | rfl | rfl | rfl | rfl | rfl | rfl; all_goals exact ⟨At.three (by simp [go_sem, KF1]) (by simp [go_sem, KF1]) (by simp [go_sem, KF1]), by simp⟩
                    apply LinAll.cons0
                    · intro g L a x hLi haft hS hK; have t18 := (hK.old 18 (by kernel_rfl)).trans o18; (try dsimp only at t18); refine go_in (wanted_all rfl) ?_; intro K hk; obtain ⟨c0, c1, c2⟩ := (hS.own _ (.tail _ (.tail _ (.tail _ (.tail _ (.tail _ (.tail _ (.tail _ (.head _))))))))).2.get3; clear haft hK hLi; go_simp; exact hS.go hk rfl
                    apply LinAll.cons0
                    · intro g L a x hLi haft hS hK; have t13 := (hK.old 13 (by kernel_rfl)).trans o13; (try dsimp only at t13); refine go_in (wanted_all rfl) ?_; intro K hk; obtain ⟨c0, c1, c2⟩ := (hS.own _ (.tail _ (.tail _ (.head _)))).2.get3; clear haft hK hLi; go_simp; exact hS.go hk rfl
                    apply LinAll.cons0
                    · intro g L a x hLi haft hS hK; have t98 := hK.new 0 1 _ 98 _ rfl rfl rfl (by kernel_rfl) (waits haft 0 (by kernel_rfl)); have t99 := hK.new 1 0 _ 99 _ rfl rfl rfl (by kernel_rfl) (waits haft 1 (by kernel_rfl)); (try dsimp only at t98 t99); refine go_in (wanted_all rfl) ?_; intro K hk; clear haft hK hLi; go_simp; exact hS.go hk rfl
                    apply LinAll.cons0
                    · intro g L a x hLi haft hS hK; have t100 := hK.new 2 0 _ 100 _ rfl rfl rfl (by kernel_rfl) (waits haft 2 (by kernel_rfl)); (try dsimp only at t100); refine go_in (wanted_all rfl) ?_; intro K hk; clear haft hK hLi; go_simp; exact hS.go hk rfl
                    apply LinAll.cons0
                    · intro g L a x hLi haft hS hK; have t19 := (hK.old 19 (by kernel_rfl)).trans o19; have tg := hK.new 3 0 _ 101 _ rfl rfl rfl (by kernel_rfl) (waits haft 3 (by kernel_rfl)); (try dsimp only at t19); exact go_out (wanted_at rfl rfl rfl tg rfl) ⟨rfl, hS.same rfl⟩
                    apply LinAll.cons0
                    · intro g L a x hLi haft hS hK; have t101 := hK.new 3 1 _ 101 _ rfl rfl rfl (by kernel_rfl) (waits haft 3 (by kernel_rfl)); have t102 := hK.new 4 0 _ 102 _ rfl rfl rfl (by kernel_rfl) (waits haft 4 (by kernel_rfl)); (try dsimp only at t101 t102); refine go_in (wanted_all rfl) ?_; intro K hk; clear haft hK hLi; go_simp; exact hS.go hk rfl
                    apply LinAll.cons0
                    · intro g L a x hLi haft hS hK; have t103 := hK.new 5 0 _ 103 _ rfl rfl rfl (by kernel_rfl) (waits haft 5 (by kernel_rfl)); (try dsimp only at t103); refine go_in (wanted_all rfl) ?_; intro K hk; clear haft hK hLi; go_simp; exact hS.go hk rfl
                    apply LinAll.cons0
                    · intro g L a x hLi haft hS hK; have t17 := (hK.old 17 (by kernel_rfl)).trans o17; have tg := hK.new 6 0 _ 104 _ rfl rfl rfl (by kernel_rfl) (waits haft 6 (by kernel_rfl)); (try dsimp only at t17); refine go_in (wanted_at rfl rfl rfl tg rfl) ?_; intro K hk; obtain ⟨c0, c1, c2⟩ := (hS.own _ (.tail _ (.tail _ (.tail _ (.tail _ (.tail _ (.tail _ (.head _)))))))).2.get3; clear haft hK tg hLi; go_simp; exact hS.go hk rfl
                    apply LinAll.cons0
                    · intro g L a x hLi haft hS hK; have t13 := (hK.old 13 (by kernel_rfl)).trans o13; have tg := hK.new 6 1 _ 104 _ rfl rfl rfl (by kernel_rfl) (waits haft 6 (by kernel_rfl)); (try dsimp only at t13); refine go_in (wanted_at rfl rfl rfl tg rfl) ?_; intro K hk; obtain ⟨c0, c1, c2⟩ := (hS.own _ (.tail _ (.tail _ (.head _)))).2.get3; clear haft hK tg hLi; go_simp; exact hS.go hk rfl
                    apply LinAll.cons0
                    · intro g L a x hLi haft hS hK; have t105 := hK.new 7 1 _ 105 _ rfl rfl rfl (by kernel_rfl) (waits haft 7 (by kernel_rfl)); have t106 := hK.new 8 0 _ 106 _ rfl rfl rfl (by kernel_rfl) (waits haft 8 (by kernel_rfl)); have tg := hK.new 6 2 _ 104 _ rfl rfl rfl (by kernel_rfl) (waits haft 6 (by kernel_rfl)); (try dsimp only at t105 t106); refine go_in (wanted_at rfl rfl rfl tg rfl) ?_; intro K hk; clear haft hK tg hLi; go_simp; exact hS.go hk rfl
                    apply LinAll.cons0
                    · intro g L a x hLi haft hS hK; have t107 := hK.new 9 0 _ 107 _ rfl rfl rfl (by kernel_rfl) (waits haft 9 (by kernel_rfl)); have tg := hK.new 6 3 _ 104 _ rfl rfl rfl (by kernel_rfl) (waits haft 6 (by kernel_rfl)); (try dsimp only at t107); refine go_in (wanted_at rfl rfl rfl tg rfl) ?_; intro K hk; clear haft hK tg hLi; go_simp; exact hS.go hk rfl
                    apply LinAll.cons0
                    · intro g L a x hLi haft hS hK; have t17 := (hK.old 17 (by kernel_rfl)).trans o17; have tg := hK.new 10 0 _ 108 _ rfl rfl rfl (by kernel_rfl) (waits haft 10 (by kernel_rfl)); (try dsimp only at t17); exact go_out (wanted_at rfl rfl rfl tg rfl) ⟨rfl, hS.same rfl⟩
                    apply LinAll.cons0
                    · intro g L a x hLi haft hS hK; have t109 := hK.new 11 0 _ 109 _ rfl rfl rfl (by kernel_rfl) (waits haft 11 (by kernel_rfl)); have tg := hK.new 10 1 _ 108 _ rfl rfl rfl (by kernel_rfl) (waits haft 10 (by kernel_rfl)); (try dsimp only at t109); exact go_out (wanted_at rfl rfl rfl tg rfl) ⟨rfl, hS.same rfl⟩
                    apply LinAll.cons0
                    · intro g L a x hLi haft hS hK; have t11 := (hK.old 11 (by kernel_rfl)).trans o11; have tg := hK.new 10 2 _ 108 _ rfl rfl rfl (by kernel_rfl) (waits haft 10 (by kernel_rfl)); (try dsimp only at t11); exact go_out (wanted_at rfl rfl rfl tg rfl) ⟨rfl, hS.same rfl⟩
                    apply LinAll.cons0
                    · intro g L a x hLi haft hS hK; have t111 := hK.new 13 0 _ 111 _ rfl rfl rfl (by kernel_rfl) (waits haft 13 (by kernel_rfl)); have tg := hK.new 10 3 _ 108 _ rfl rfl rfl (by kernel_rfl) (waits haft 10 (by kernel_rfl)); (try dsimp only at t111); exact go_out (wanted_at rfl rfl rfl tg rfl) ⟨rfl, hS.same rfl⟩
                    apply LinAll.cons0
                    · intro g L a x hLi haft hS hK; have t110 := hK.new 12 2 _ 110 _ rfl rfl rfl (by kernel_rfl) (waits haft 12 (by kernel_rfl)); have t112 := hK.new 14 0 _ 112 _ rfl rfl rfl (by kernel_rfl) (waits haft 14 (by kernel_rfl)); have tg := hK.new 10 4 _ 108 _ rfl rfl rfl (by kernel_rfl) (waits haft 10 (by kernel_rfl)); (try dsimp only at t110 t112); exact go_out (wanted_at rfl rfl rfl tg rfl) ⟨rfl, hS.same rfl⟩
                    apply LinAll.cons0
                    · intro g L a x hLi haft hS hK; have t108 := hK.new 10 5 _ 108 _ rfl rfl rfl (by kernel_rfl) (waits haft 10 (by kernel_rfl)); have t113 := hK.new 15 0 _ 113 _ rfl rfl rfl (by kernel_rfl) (waits haft 15 (by kernel_rfl)); have tg := hK.new 6 9 _ 104 _ rfl rfl rfl (by kernel_rfl) (waits haft 6 (by kernel_rfl)); (try dsimp only at t108 t113); refine go_in (wanted_at rfl rfl rfl tg rfl) ?_; intro K hk; clear haft hK tg hLi; go_simp; exact hS.go hk rfl
                    apply LinAll.cons0
                    · intro g L a x hLi haft hS hK; have t104 := hK.new 6 10 _ 104 _ rfl rfl rfl (by kernel_rfl) (waits haft 6 (by kernel_rfl)); have t114 := hK.new 16 0 _ 114 _ rfl rfl rfl (by kernel_rfl) (waits haft 16 (by kernel_rfl)); (try dsimp only at t104 t114); refine go_in (wanted_all rfl) ?_; intro K hk; clear haft hK hLi; go_simp; exact hS.go hk rfl
                    apply LinAll.cons0
                    · intro g L a x hLi haft hS hK; have t115 := hK.new 17 0 _ 115 _ rfl rfl rfl (by kernel_rfl) (waits haft 17 (by kernel_rfl)); (try dsimp only at t115); refine go_in (wanted_all rfl) ?_; intro K hk; clear haft hK hLi; go_simp; exact hS.go hk rfl
                    apply LinAll.cons0
                    · intro g L a x hLi haft hS hK; have t18 := (hK.old 18 (by kernel_rfl)).trans o18; have tg := hK.new 18 0 _ 116 _ rfl rfl rfl (by kernel_rfl) (waits haft 18 (by kernel_rfl)); (try dsimp only at t18); refine go_in (wanted_at rfl rfl rfl tg rfl) ?_; intro K hk; obtain ⟨c0, c1, c2⟩ := (hS.own _ (.tail _ (.tail _ (.tail _ (.tail _ (.tail _ (.tail _ (.tail _ (.head _))))))))).2.get3; clear haft hK tg hLi; go_simp; exact hS.go hk rfl
                    apply LinAll.cons0
                    · intro g L a x hLi haft hS hK; have t17 := (hK.old 17 (by kernel_rfl)).trans o17; have tg := hK.new 18 1 _ 116 _ rfl rfl rfl (by kernel_rfl) (waits haft 18 (by kernel_rfl)); (try dsimp only at t17); refine go_in (wanted_at rfl rfl rfl tg rfl) ?_; intro K hk; obtain ⟨c0, c1, c2⟩ := (hS.own _ (.tail _ (.tail _ (.tail _ (.tail _ (.tail _ (.tail _ (.head _)))))))).2.get3; clear haft hK tg hLi; go_simp; exact hS.go hk rfl
                    apply LinAll.cons0
                    · intro g L a x hLi haft hS hK; have t117 := hK.new 19 1 _ 117 _ rfl rfl rfl (by kernel_rfl) (waits haft 19 (by kernel_rfl)); have t118 := hK.new 20 0 _ 118 _ rfl rfl rfl (by kernel_rfl) (waits haft 20 (by kernel_rfl)); have tg := hK.new 18 2 _ 116 _ rfl rfl rfl (by kernel_rfl) (waits haft 18 (by kernel_rfl)); (try dsimp only at t117 t118); refine go_in (wanted_at rfl rfl rfl tg rfl) ?_; intro K hk; clear haft hK tg hLi; go_simp; exact hS.go hk rfl
                    apply LinAll.cons0
                    · intro g L a x hLi haft hS hK; have t119 := hK.new 21 0 _ 119 _ rfl rfl rfl (by kernel_rfl) (waits haft 21 (by kernel_rfl)); have tg := hK.new 18 3 _ 116 _ rfl rfl rfl (by kernel_rfl) (waits haft 18 (by kernel_rfl)); (try dsimp only at t119); refine go_in (wanted_at rfl rfl rfl tg rfl) ?_; intro K hk; clear haft hK tg hLi; go_simp; exact hS.go hk rfl
                    apply LinAll.cons0
                    · intro g L a x hLi haft hS hK; have t17 := (hK.old 17 (by kernel_rfl)).trans o17; have tg := hK.new 22 0 _ 120 _ rfl rfl rfl (by kernel_rfl) (waits haft 22 (by kernel_rfl)); (try dsimp only at t17); refine go_in (wanted_at rfl rfl rfl tg rfl) ?_; intro K hk; obtain ⟨c0, c1, c2⟩ := (hS.own _ (.tail _ (.tail _ (.tail _ (.tail _ (.tail _ (.tail _ (.head _)))))))).2.get3; clear haft hK tg hLi; go_simp; exact hS.go hk rfl
                    apply LinAll.cons0
                    · intro g L a x hLi haft hS hK; have t12 := (hK.old 12 (by kernel_rfl)).trans o12; have tg := hK.new 22 1 _ 120 _ rfl rfl rfl (by kernel_rfl) (waits haft 22 (by kernel_rfl)); (try dsimp only at t12); refine go_in (wanted_at rfl rfl rfl tg rfl) ?_; intro K hk; obtain ⟨c0, c1, c2⟩ := (hS.own _ (.tail _ (.head _))).2.get3; clear haft hK tg hLi; go_simp; exact hS.go hk rfl
                    apply LinAll.cons0
                    · intro g L a x hLi haft hS hK; have t121 := hK.new 23 1 _ 121 _ rfl rfl rfl (by kernel_rfl) (waits haft 23 (by kernel_rfl)); have t122 := hK.new 24 0 _ 122 _ rfl rfl rfl (by kernel_rfl) (waits haft 24 (by kernel_rfl)); have tg := hK.new 22 2 _ 120 _ rfl rfl rfl (by kernel_rfl) (waits haft 22 (by kernel_rfl)); (try dsimp only at t121 t122); refine go_in (wanted_at rfl rfl rfl tg rfl) ?_; intro K hk; clear haft hK tg hLi; go_simp; refine (HSM.out _).mono ?_; rintro e y ⟨rfl, hb⟩; exact hS.on hk hb rfl
                    apply LinAll.cons0
                    · intro g L a x hLi haft hS hK; have t18 := (hK.old 18 (by kernel_rfl)).trans o18; have tg := hK.new 22 3 _ 120 _ rfl rfl rfl (by kernel_rfl) (waits haft 22 (by kernel_rfl)); (try dsimp only at t18); refine go_in (wanted_at rfl rfl rfl tg rfl) ?_; intro K hk; obtain ⟨c0, c1, c2⟩ := (hS.own _ (.tail _ (.tail _ (.tail _ (.tail _ (.tail _ (.tail _ (.tail _ (.head _))))))))).2.get3; clear haft hK tg hLi; go_simp; exact hS.go hk rfl
                    apply LinAll.cons0
                    · intro g L a x hLi haft hS hK; have t123 := hK.new 25 1 _ 123 _ rfl rfl rfl (by kernel_rfl) (waits haft 25 (by kernel_rfl)); have t124 := hK.new 26 0 _ 124 _ rfl rfl rfl (by kernel_rfl) (waits haft 26 (by kernel_rfl)); have tg := hK.new 22 4 _ 120 _ rfl rfl rfl (by kernel_rfl) (waits haft 22 (by kernel_rfl)); (try dsimp only at t123 t124); refine go_in (wanted_at rfl rfl rfl tg rfl) ?_; intro K hk; clear haft hK tg hLi; go_simp; exact hS.go hk rfl
                    apply LinAll.cons0
                    · intro g L a x hLi haft hS hK; have t120 := hK.new 22 5 _ 120 _ rfl rfl rfl (by kernel_rfl) (waits haft 22 (by kernel_rfl)); have t125 := hK.new 27 0 _ 125 _ rfl rfl rfl (by kernel_rfl) (waits haft 27 (by kernel_rfl)); have tg := hK.new 18 9 _ 116 _ rfl rfl rfl (by kernel_rfl) (waits haft 18 (by kernel_rfl)); (try dsimp only at t120 t125); refine go_in (wanted_at rfl rfl rfl tg rfl) ?_; intro K hk; clear haft hK tg hLi; go_simp; exact hS.go hk rfl
                    apply LinAll.cons0
                    · intro g L a x hLi haft hS hK; have t116 := hK.new 18 10 _ 116 _ rfl rfl rfl (by kernel_rfl) (waits haft 18 (by kernel_rfl)); have t126 := hK.new 28 0 _ 126 _ rfl rfl rfl (by kernel_rfl) (waits haft 28 (by kernel_rfl)); (try dsimp only at t116 t126); refine go_in (wanted_all rfl) ?_; intro K hk; clear haft hK hLi; go_simp; exact hS.go hk rfl
                    apply LinAll.cons0
                    · intro g L a x hLi haft hS hK; have t127 := hK.new 29 0 _ 127 _ rfl rfl rfl (by kernel_rfl) (waits haft 29 (by kernel_rfl)); (try dsimp only at t127); refine go_in (wanted_all rfl) ?_; intro K hk; clear haft hK hLi; go_simp; exact hS.go hk rfl
                    refine LinAll.nil fun g x hS => ?_
                    subst ha0
                    simp only [Act.put, List.setIfInBounds_toArray, List.set_cons_zero, List.set_cons_succ]
                    clear o11 o12 o13 o17 o18 o19
                    have KL := And.intro (hS.own _ (.head _)).2.get3 (And.intro (hS.own _ (.tail _ (.head _))).2.get3 (And.intro (hS.own _ (.tail _ (.tail _ (.head _)))).2.get3 (And.intro (hS.own _ (.tail _ (.tail _ (.tail _ (.head _))))).2.get3 (And.intro (hS.own _ (.tail _ (.tail _ (.tail _ (.tail _ (.head _)))))).2.get3 (And.intro (hS.own _ (.tail _ (.tail _ (.tail _ (.tail _ (.tail _ (.head _))))))).2.get3 (And.intro (hS.own _ (.tail _ (.tail _ (.tail _ (.tail _ (.tail _ (.tail _ (.head _)))))))).2.get3 (hS.own _ (.tail _ (.tail _ (.tail _ (.tail _ (.tail _ (.tail _ (.tail _ (.head _))))))))).2.get3))))))
                    have hBq := hS.below
                    have hBs := hBq.size
                    clear hS
                    go_wp2_with fail
                    go_ret
                    exact ⟨rfl, by go_grown⟩
                · have e2 : eqB DT Z = false := eqB_no p2
                  have e2b : bT = bA := Y2.out.resolve_left p2
                  subst e2b
                  clear p2 Y2
                  by_cases p3 : DM = DT
                  · have e3 : eqB DM DT = true := eqB_yes p3
                    clear p3 Y3
                    refine wp_named fun a0 ha0 => ?_
                    have o11 := old_at ha0 (t := 11) rfl
                    have o12 := old_at ha0 (t := 12) rfl
                    have o13 := old_at ha0 (t := 13) rfl
                    have o17 := old_at ha0 (t := 17) rfl
                    have o18 := old_at ha0 (t := 18) rfl
                    have o19 := old_at ha0 (t := 19) rfl
                    refine wp_region_lin (S := SS w _ [(w3.heap.size, [.int .i64 W, .int .u64 (LO (n)), .int .u64 (HI (n))]), (w3.heap.size + 1, [.int .i64 W, .int .u64 (LO (m)), .int .u64 (HI (m))]), (w3.heap.size + 1 + 1, [.int .i64 W, .int .u64 (LO (Z)), .int .u64 (HI (Z))]), (b1, [.int .i64 W, .int .u64 (LO (DQ)), .int .u64 (HI (DQ))]), (b2, [.int .i64 W, .int .u64 (LO (DR)), .int .u64 (HI (DR))]), (b3, [.int .i64 W, .int .u64 (LO (DS)), .int .u64 (HI (DS))]), (b4, [.int .i64 W, .int .u64 (LO (DT)), .int .u64 (HI (DT))]), (w4.heap.size, [.int .i64 W, .int .u64 (LO (DM)), .int .u64 (HI (DM))])] []) [] (fun _ => 0) (by kernel_rfl) (by kernel_rfl) (by rw [← ha0]; kernel_rfl) (SS.start (by first | assumption | go_grown) ?_) ?_
                    · intro p hp; simp only [List.mem_cons, List.not_mem_nil, or_false] at hp; rcases hp with rfl | rfl | rfl | rfl | rfl | rfl | rfl | rfl; all_goals exact ⟨At.three (by simp [go_sem, KF1]) (by simp [go_sem, KF1]) (by simp [go_sem, KF1]), by simp⟩
                    apply LinAll.cons0
                    · intro g L a x hLi haft hS hK; have t18 := (hK.old 18 (by kernel_rfl)).trans o18; (try dsimp only at t18); refine go_in (wanted_all rfl) ?_; intro K hk; obtain ⟨c0, c1, c2⟩ := (hS.own _ (.tail _ (.tail _ (.tail _ (.tail _ (.tail _ (.tail _ (.tail _ (.head _))))))))).2.get3; clear haft hK hLi; go_simp; exact hS.go hk rfl
                    apply LinAll.cons0
                    · intro g L a x hLi haft hS hK; have t13 := (hK.old 13 (by kernel_rfl)).trans o13; (try dsimp only at t13); refine go_in (wanted_all rfl) ?_; intro K hk; obtain ⟨c0, c1, c2⟩ := (hS.own _ (.tail _ (.tail _ (.head _)))).2.get3; clear haft hK hLi; go_simp; exact hS.go hk rfl
                    apply LinAll.cons0
                    · intro g L a x hLi haft hS hK; have t98 := hK.new 0 1 _ 98 _ rfl rfl rfl (by kernel_rfl) (waits haft 0 (by kernel_rfl)); have t99 := hK.new 1 0 _ 99 _ rfl rfl rfl (by kernel_rfl) (waits haft 1 (by kernel_rfl)); (try dsimp only at t98 t99); refine go_in (wanted_all rfl) ?_; intro K hk; clear haft hK hLi; go_simp; exact hS.go hk rfl
                    apply LinAll.cons0
                    · intro g L a x hLi haft hS hK; have t100 := hK.new 2 0 _ 100 _ rfl rfl rfl (by kernel_rfl) (waits haft 2 (by kernel_rfl)); (try dsimp only at t100); refine go_in (wanted_all rfl) ?_; intro K hk; clear haft hK hLi; go_simp; exact hS.go hk rfl
                    apply LinAll.cons0
                    · intro g L a x hLi haft hS hK; have t19 := (hK.old 19 (by kernel_rfl)).trans o19; have tg := hK.new 3 0 _ 101 _ rfl rfl rfl (by kernel_rfl) (waits haft 3 (by kernel_rfl)); (try dsimp only at t19); exact go_out (wanted_at rfl rfl rfl tg rfl) ⟨rfl, hS.same rfl⟩
                    apply LinAll.cons0
                    · intro g L a x hLi haft hS hK; have t101 := hK.new 3 1 _ 101 _ rfl rfl rfl (by kernel_rfl) (waits haft 3 (by kernel_rfl)); have t102 := hK.new 4 0 _ 102 _ rfl rfl rfl (by kernel_rfl) (waits haft 4 (by kernel_rfl)); (try dsimp only at t101 t102); refine go_in (wanted_all rfl) ?_; intro K hk; clear haft hK hLi; go_simp; exact hS.go hk rfl
                    apply LinAll.cons0
                    · intro g L a x hLi haft hS hK; have t103 := hK.new 5 0 _ 103 _ rfl rfl rfl (by kernel_rfl) (waits haft 5 (by kernel_rfl)); (try dsimp only at t103); refine go_in (wanted_all rfl) ?_; intro K hk; clear haft hK hLi; go_simp; exact hS.go hk rfl
                    apply LinAll.cons0
                    · intro g L a x hLi haft hS hK; have t17 := (hK.old 17 (by kernel_rfl)).trans o17; have tg := hK.new 6 0 _ 104 _ rfl rfl rfl (by kernel_rfl) (waits haft 6 (by kernel_rfl)); (try dsimp only at t17); refine go_in (wanted_at rfl rfl rfl tg rfl) ?_; intro K hk; obtain ⟨c0, c1, c2⟩ := (hS.own _ (.tail _ (.tail _ (.tail _ (.tail _ (.tail _ (.tail _ (.head _)))))))).2.get3; clear haft hK tg hLi; go_simp; exact hS.go hk rfl
                    apply LinAll.cons0
                    · intro g L a x hLi haft hS hK; have t13 := (hK.old 13 (by kernel_rfl)).trans o13; have tg := hK.new 6 1 _ 104 _ rfl rfl rfl (by kernel_rfl) (waits haft 6 (by kernel_rfl)); (try dsimp only at t13); refine go_in (wanted_at rfl rfl rfl tg rfl) ?_; intro K hk; obtain ⟨c0, c1, c2⟩ := (hS.own _ (.tail _ (.tail _ (.head _)))).2.get3; clear haft hK tg hLi; go_simp; exact hS.go hk rfl
                    apply LinAll.cons0
                    · intro g L a x hLi haft hS hK; have t105 := hK.new 7 1 _ 105 _ rfl rfl rfl (by kernel_rfl) (waits haft 7 (by kernel_rfl)); have t106 := hK.new 8 0 _ 106 _ rfl rfl rfl (by kernel_rfl) (waits haft 8 (by kernel_rfl)); have tg := hK.new 6 2 _ 104 _ rfl rfl rfl (by kernel_rfl) (waits haft 6 (by kernel_rfl)); (try dsimp only at t105 t106); refine go_in (wanted_at rfl rfl rfl tg rfl) ?_; intro K hk; clear haft hK tg hLi; go_simp; exact hS.go hk rfl
                    apply LinAll.cons0
                    · intro g L a x hLi haft hS hK; have t107 := hK.new 9 0 _ 107 _ rfl rfl rfl (by kernel_rfl) (waits haft 9 (by kernel_rfl)); have tg := hK.new 6 3 _ 104 _ rfl rfl rfl (by kernel_rfl) (waits haft 6 (by kernel_rfl)); (try dsimp only at t107); refine go_in (wanted_at rfl rfl rfl tg rfl) ?_; intro K hk; clear haft hK tg hLi; go_simp; exact hS.go hk rfl
                    apply LinAll.cons0
                    · intro g L a x hLi haft hS hK; have t17 := (hK.old 17 (by kernel_rfl)).trans o17; have tg := hK.new 10 0 _ 108 _ rfl rfl rfl (by kernel_rfl) (waits haft 10 (by kernel_rfl)); (try dsimp only at t17); refine go_in (wanted_at rfl rfl rfl tg rfl) ?_; intro K hk; obtain ⟨c0, c1, c2⟩ := (hS.own _ (.tail _ (.tail _ (.tail _ (.tail _ (.tail _ (.tail _ (.head _)))))))).2.get3; clear haft hK tg hLi; go_simp; exact hS.go hk rfl
                    apply LinAll.cons0
                    · intro g L a x hLi haft hS hK; have t109 := hK.new 11 0 _ 109 _ rfl rfl rfl (by kernel_rfl) (waits haft 11 (by kernel_rfl)); have tg := hK.new 10 1 _ 108 _ rfl rfl rfl (by kernel_rfl) (waits haft 10 (by kernel_rfl)); (try dsimp only at t109); refine go_in (wanted_at rfl rfl rfl tg rfl) ?_; intro K hk; clear haft hK tg hLi; go_simp; refine (MT.out _).mono ?_; rintro e y ⟨rfl, hb⟩; exact hS.on hk hb rfl
                    apply LinAll.cons0
                    · intro g L a x hLi haft hS hK; have t11 := (hK.old 11 (by kernel_rfl)).trans o11; have tg := hK.new 10 2 _ 108 _ rfl rfl rfl (by kernel_rfl) (waits haft 10 (by kernel_rfl)); (try dsimp only at t11); refine go_in (wanted_at rfl rfl rfl tg rfl) ?_; intro K hk; obtain ⟨c0, c1, c2⟩ := (hS.own _ (.head _)).2.get3; clear haft hK tg hLi; go_simp; exact hS.go hk rfl
                    apply LinAll.cons0
                    · intro g L a x hLi haft hS hK; have t111 := hK.new 13 0 _ 111 _ rfl rfl rfl (by kernel_rfl) (waits haft 13 (by kernel_rfl)); have tg := hK.new 10 3 _ 108 _ rfl rfl rfl (by kernel_rfl) (waits haft 10 (by kernel_rfl)); (try dsimp only at t111); refine go_in (wanted_at rfl rfl rfl tg rfl) ?_; intro K hk; clear haft hK tg hLi; go_simp; refine (MA.out _).mono ?_; rintro e y ⟨rfl, hb⟩; exact hS.on hk hb rfl
                    apply LinAll.cons0
                    · intro g L a x hLi haft hS hK; have t110 := hK.new 12 2 _ 110 _ rfl rfl rfl (by kernel_rfl) (waits haft 12 (by kernel_rfl)); have t112 := hK.new 14 0 _ 112 _ rfl rfl rfl (by kernel_rfl) (waits haft 14 (by kernel_rfl)); have tg := hK.new 10 4 _ 108 _ rfl rfl rfl (by kernel_rfl) (waits haft 10 (by kernel_rfl)); (try dsimp only at t110 t112); refine go_in (wanted_at rfl rfl rfl tg rfl) ?_; intro K hk; clear haft hK tg hLi; go_simp; exact hS.go hk rfl
                    apply LinAll.cons0
                    · intro g L a x hLi haft hS hK; have t108 := hK.new 10 5 _ 108 _ rfl rfl rfl (by kernel_rfl) (waits haft 10 (by kernel_rfl)); have t113 := hK.new 15 0 _ 113 _ rfl rfl rfl (by kernel_rfl) (waits haft 15 (by kernel_rfl)); have tg := hK.new 6 9 _ 104 _ rfl rfl rfl (by kernel_rfl) (waits haft 6 (by kernel_rfl)); (try dsimp only at t108 t113); refine go_in (wanted_at rfl rfl rfl tg rfl) ?_; intro K hk; clear haft hK tg hLi; go_simp; exact hS.go hk rfl
                    apply LinAll.cons0
                    · intro g L a x hLi haft hS hK; have t104 := hK.new 6 10 _ 104 _ rfl rfl rfl (by kernel_rfl) (waits haft 6 (by kernel_rfl)); have t114 := hK.new 16 0 _ 114 _ rfl rfl rfl (by kernel_rfl) (waits haft 16 (by kernel_rfl)); (try dsimp only at t104 t114); refine go_in (wanted_all rfl) ?_; intro K hk; clear haft hK hLi; go_simp; exact hS.go hk rfl
                    apply LinAll.cons0
                    · intro g L a x hLi haft hS hK; have t115 := hK.new 17 0 _ 115 _ rfl rfl rfl (by kernel_rfl) (waits haft 17 (by kernel_rfl)); (try dsimp only at t115); refine go_in (wanted_all rfl) ?_; intro K hk; clear haft hK hLi; go_simp; exact hS.go hk rfl
                    apply LinAll.cons0
                    · intro g L a x hLi haft hS hK; have t18 := (hK.old 18 (by kernel_rfl)).trans o18; have tg := hK.new 18 0 _ 116 _ rfl rfl rfl (by kernel_rfl) (waits haft 18 (by kernel_rfl)); (try dsimp only at t18); refine go_in (wanted_at rfl rfl rfl tg rfl) ?_; intro K hk; obtain ⟨c0, c1, c2⟩ := (hS.own _ (.tail _ (.tail _ (.tail _ (.tail _ (.tail _ (.tail _ (.tail _ (.head _))))))))).2.get3; clear haft hK tg hLi; go_simp; exact hS.go hk rfl
                    apply LinAll.cons0
                    · intro g L a x hLi haft hS hK; have t17 := (hK.old 17 (by kernel_rfl)).trans o17; have tg := hK.new 18 1 _ 116 _ rfl rfl rfl (by kernel_rfl) (waits haft 18 (by kernel_rfl)); (try dsimp only at t17); refine go_in (wanted_at rfl rfl rfl tg rfl) ?_; intro K hk; obtain ⟨c0, c1, c2⟩ := (hS.own _ (.tail _ (.tail _ (.tail _ (.tail _ (.tail _ (.tail _ (.head _)))))))).2.get3; clear haft hK tg hLi; go_simp; exact hS.go hk rfl
                    apply LinAll.cons0
                    · intro g L a x hLi haft hS hK; have t117 := hK.new 19 1 _ 117 _ rfl rfl rfl (by kernel_rfl) (waits haft 19 (by kernel_rfl)); have t118 := hK.new 20 0 _ 118 _ rfl rfl rfl (by kernel_rfl) (waits haft 20 (by kernel_rfl)); have tg := hK.new 18 2 _ 116 _ rfl rfl rfl (by kernel_rfl) (waits haft 18 (by kernel_rfl)); (try dsimp only at t117 t118); refine go_in (wanted_at rfl rfl rfl tg rfl) ?_; intro K hk; clear haft hK tg hLi; go_simp; exact hS.go hk rfl
                    apply LinAll.cons0
                    · intro g L a x hLi haft hS hK; have t119 := hK.new 21 0 _ 119 _ rfl rfl rfl (by kernel_rfl) (waits haft 21 (by kernel_rfl)); have tg := hK.new 18 3 _ 116 _ rfl rfl rfl (by kernel_rfl) (waits haft 18 (by kernel_rfl)); (try dsimp only at t119); refine go_in (wanted_at rfl rfl rfl tg rfl) ?_; intro K hk; clear haft hK tg hLi; go_simp; exact hS.go hk rfl
                    apply LinAll.cons0
                    · intro g L a x hLi haft hS hK; have t17 := (hK.old 17 (by kernel_rfl)).trans o17; have tg := hK.new 22 0 _ 120 _ rfl rfl rfl (by kernel_rfl) (waits haft 22 (by kernel_rfl)); (try dsimp only at t17); exact go_out (wanted_at rfl rfl rfl tg rfl) ⟨rfl, hS.same rfl⟩
                    apply LinAll.cons0
                    · intro g L a x hLi haft hS hK; have t12 := (hK.old 12 (by kernel_rfl)).trans o12; have tg := hK.new 22 1 _ 120 _ rfl rfl rfl (by kernel_rfl) (waits haft 22 (by kernel_rfl)); (try dsimp only at t12); exact go_out (wanted_at rfl rfl rfl tg rfl) ⟨rfl, hS.same rfl⟩
                    apply LinAll.cons0
                    · intro g L a x hLi haft hS hK; have t121 := hK.new 23 1 _ 121 _ rfl rfl rfl (by kernel_rfl) (waits haft 23 (by kernel_rfl)); have t122 := hK.new 24 0 _ 122 _ rfl rfl rfl (by kernel_rfl) (waits haft 24 (by kernel_rfl)); have tg := hK.new 22 2 _ 120 _ rfl rfl rfl (by kernel_rfl) (waits haft 22 (by kernel_rfl)); (try dsimp only at t121 t122); exact go_out (wanted_at rfl rfl rfl tg rfl) ⟨rfl, hS.same rfl⟩
                    apply LinAll.cons0
                    · intro g L a x hLi haft hS hK; have t18 := (hK.old 18 (by kernel_rfl)).trans o18; have tg := hK.new 22 3 _ 120 _ rfl rfl rfl (by kernel_rfl) (waits haft 22 (by kernel_rfl)); (try dsimp only at t18); exact go_out (wanted_at rfl rfl rfl tg rfl) ⟨rfl, hS.same rfl⟩
                    apply LinAll.cons0
                    · intro g L a x hLi haft hS hK; have t123 := hK.new 25 1 _ 123 _ rfl rfl rfl (by kernel_rfl) (waits haft 25 (by kernel_rfl)); have t124 := hK.new 26 0 _ 124 _ rfl rfl rfl (by kernel_rfl) (waits haft 26 (by kernel_rfl)); have tg := hK.new 22 4 _ 120 _ rfl rfl rfl (by kernel_rfl) (waits haft 22 (by kernel_rfl)); (try dsimp only at t123 t124); exact go_out (wanted_at rfl rfl rfl tg rfl) ⟨rfl, hS.same rfl⟩
                    apply LinAll.cons0
                    · intro g L a x hLi haft hS hK; have t120 := hK.new 22 5 _ 120 _ rfl rfl rfl (by kernel_rfl) (waits haft 22 (by kernel_rfl)); have t125 := hK.new 27 0 _ 125 _ rfl rfl rfl (by kernel_rfl) (waits haft 27 (by kernel_rfl)); have tg := hK.new 18 9 _ 116 _ rfl rfl rfl (by kernel_rfl) (waits haft 18 (by kernel_rfl)); (try dsimp only at t120 t125); refine go_in (wanted_at rfl rfl rfl tg rfl) ?_; intro K hk; clear haft hK tg hLi; go_simp; exact hS.go hk rfl
                    apply LinAll.cons0
                    · intro g L a x hLi haft hS hK; have t116 := hK.new 18 10 _ 116 _ rfl rfl rfl (by kernel_rfl) (waits haft 18 (by kernel_rfl)); have t126 := hK.new 28 0 _ 126 _ rfl rfl rfl (by kernel_rfl) (waits haft 28 (by kernel_rfl)); (try dsimp only at t116 t126); refine go_in (wanted_all rfl) ?_; intro K hk; clear haft hK hLi; go_simp; exact hS.go hk rfl
                    apply LinAll.cons0
                    · intro g L a x hLi haft hS hK; have t127 := hK.new 29 0 _ 127 _ rfl rfl rfl (by kernel_rfl) (waits haft 29 (by kernel_rfl)); (try dsimp only at t127); refine go_in (wanted_all rfl) ?_; intro K hk; clear haft hK hLi; go_simp; exact hS.go hk rfl
                    refine LinAll.nil fun g x hS => ?_
                    subst ha0
                    simp only [Act.put, List.setIfInBounds_toArray, List.set_cons_zero, List.set_cons_succ]
                    clear o11 o12 o13 o17 o18 o19
                    have KL := And.intro (hS.own _ (.head _)).2.get3 (And.intro (hS.own _ (.tail _ (.head _))).2.get3 (And.intro (hS.own _ (.tail _ (.tail _ (.head _)))).2.get3 (And.intro (hS.own _ (.tail _ (.tail _ (.tail _ (.head _))))).2.get3 (And.intro (hS.own _ (.tail _ (.tail _ (.tail _ (.tail _ (.head _)))))).2.get3 (And.intro (hS.own _ (.tail _ (.tail _ (.tail _ (.tail _ (.tail _ (.head _))))))).2.get3 (And.intro (hS.own _ (.tail _ (.tail _ (.tail _ (.tail _ (.tail _ (.tail _ (.head _)))))))).2.get3 (hS.own _ (.tail _ (.tail _ (.tail _ (.tail _ (.tail _ (.tail _ (.tail _ (.head _))))))))).2.get3))))))
                    have hBq := hS.below
                    have hBs := hBq.size
                    clear hS
                    go_wp2_with fail
                    go_ret
                    exact ⟨rfl, by go_grown⟩
                  · have e3 : eqB DM DT = false := eqB_no p3
                    have e3b : eqB SM DM = true := eqB_yes (Y3.out.resolve_left p3)
                    clear p3 Y3
                    refine wp_named fun a0 ha0 => ?_
                    have o11 := old_at ha0 (t := 11) rfl
                    have o12 := old_at ha0 (t := 12) rfl
                    have o13 := old_at ha0 (t := 13) rfl
                    have o17 := old_at ha0 (t := 17) rfl
                    have o18 := old_at ha0 (t := 18) rfl
                    have o19 := old_at ha0 (t := 19) rfl
                    refine wp_region_lin (S := SS w _ [(w3.heap.size, [.int .i64 W, .int .u64 (LO (n)), .int .u64 (HI (n))]), (w3.heap.size + 1, [.int .i64 W, .int .u64 (LO (m)), .int .u64 (HI (m))]), (w3.heap.size + 1 + 1, [.int .i64 W, .int .u64 (LO (Z)), .int .u64 (HI (Z))]), (b1, [.int .i64 W, .int .u64 (LO (DQ)), .int .u64 (HI (DQ))]), (b2, [.int .i64 W, .int .u64 (LO (DR)), .int .u64 (HI (DR))]), (b3, [.int .i64 W, .int .u64 (LO (DS)), .int .u64 (HI (DS))]), (b4, [.int .i64 W, .int .u64 (LO (DT)), .int .u64 (HI (DT))]), (w4.heap.size, [.int .i64 W, .int .u64 (LO (DM)), .int .u64 (HI (DM))])] []) [] (fun _ => 0) (by kernel_rfl) (by kernel_rfl) (by rw [← ha0]; kernel_rfl) (SS.start (by first | assumption | go_grown) ?_) ?_
                    · intro p hp; simp only [List.mem_cons, List.not_mem_nil, or_false] at hp; rcases hp with rfl | rfl | rfl | rfl | rfl | rfl | rfl | rfl; all_goals exact ⟨At.three (by simp [go_sem, KF1]) (by simp [go_sem, KF1]) (by simp [go_sem, KF1]), by simp⟩
                    apply LinAll.cons0
                    · intro g L a x hLi haft hS hK; have t18 := (hK.old 18 (by kernel_rfl)).trans o18; (try dsimp only at t18); refine go_in (wanted_all rfl) ?_; intro K hk; obtain ⟨c0, c1, c2⟩ := (hS.own _ (.tail _ (.tail _ (.tail _ (.tail _ (.tail _ (.tail _ (.tail _ (.head _))))))))).2.get3; clear haft hK hLi; go_simp; exact hS.go hk rfl
                    apply LinAll.cons0
                    · intro g L a x hLi haft hS hK; have t13 := (hK.old 13 (by kernel_rfl)).trans o13; (try dsimp only at t13); refine go_in (wanted_all rfl) ?_; intro K hk; obtain ⟨c0, c1, c2⟩ := (hS.own _ (.tail _ (.tail _ (.head _)))).2.get3; clear haft hK hLi; go_simp; exact hS.go hk rfl
                    apply LinAll.cons0
                    · intro g L a x hLi haft hS hK; have t98 := hK.new 0 1 _ 98 _ rfl rfl rfl (by kernel_rfl) (waits haft 0 (by kernel_rfl)); have t99 := hK.new 1 0 _ 99 _ rfl rfl rfl (by kernel_rfl) (waits haft 1 (by kernel_rfl)); (try dsimp only at t98 t99); refine go_in (wanted_all rfl) ?_; intro K hk; clear haft hK hLi; go_simp; exact hS.go hk rfl
                    apply LinAll.cons0
                    · intro g L a x hLi haft hS hK; have t100 := hK.new 2 0 _ 100 _ rfl rfl rfl (by kernel_rfl) (waits haft 2 (by kernel_rfl)); (try dsimp only at t100); refine go_in (wanted_all rfl) ?_; intro K hk; clear haft hK hLi; go_simp; exact hS.go hk rfl
                    apply LinAll.cons0
                    · intro g L a x hLi haft hS hK; have t19 := (hK.old 19 (by kernel_rfl)).trans o19; have tg := hK.new 3 0 _ 101 _ rfl rfl rfl (by kernel_rfl) (waits haft 3 (by kernel_rfl)); (try dsimp only at t19); exact go_out (wanted_at rfl rfl rfl tg rfl) ⟨rfl, hS.same rfl⟩
                    apply LinAll.cons0
                    · intro g L a x hLi haft hS hK; have t101 := hK.new 3 1 _ 101 _ rfl rfl rfl (by kernel_rfl) (waits haft 3 (by kernel_rfl)); have t102 := hK.new 4 0 _ 102 _ rfl rfl rfl (by kernel_rfl) (waits haft 4 (by kernel_rfl)); (try dsimp only at t101 t102); refine go_in (wanted_all rfl) ?_; intro K hk; clear haft hK hLi; go_simp; exact hS.go hk rfl
                    apply LinAll.cons0
                    · intro g L a x hLi haft hS hK; have t103 := hK.new 5 0 _ 103 _ rfl rfl rfl (by kernel_rfl) (waits haft 5 (by kernel_rfl)); (try dsimp only at t103); refine go_in (wanted_all rfl) ?_; intro K hk; clear haft hK hLi; go_simp; exact hS.go hk rfl
                    apply LinAll.cons0
                    · intro g L a x hLi haft hS hK; have t17 := (hK.old 17 (by kernel_rfl)).trans o17; have tg := hK.new 6 0 _ 104 _ rfl rfl rfl (by kernel_rfl) (waits haft 6 (by kernel_rfl)); (try dsimp only at t17); refine go_in (wanted_at rfl rfl rfl tg rfl) ?_; intro K hk; obtain ⟨c0, c1, c2⟩ := (hS.own _ (.tail _ (.tail _ (.tail _ (.tail _ (.tail _ (.tail _ (.head _)))))))).2.get3; clear haft hK tg hLi; go_simp; exact hS.go hk rfl
                    apply LinAll.cons0
                    · intro g L a x hLi haft hS hK; have t13 := (hK.old 13 (by kernel_rfl)).trans o13; have tg := hK.new 6 1 _ 104 _ rfl rfl rfl (by kernel_rfl) (waits haft 6 (by kernel_rfl)); (try dsimp only at t13); refine go_in (wanted_at rfl rfl rfl tg rfl) ?_; intro K hk; obtain ⟨c0, c1, c2⟩ := (hS.own _ (.tail _ (.tail _ (.head _)))).2.get3; clear haft hK tg hLi; go_simp; exact hS.go hk rfl
                    apply LinAll.cons0
                    · intro g L a x hLi haft hS hK; have t105 := hK.new 7 1 _ 105 _ rfl rfl rfl (by kernel_rfl) (waits haft 7 (by kernel_rfl)); have t106 := hK.new 8 0 _ 106 _ rfl rfl rfl (by kernel_rfl) (waits haft 8 (by kernel_rfl)); have tg := hK.new 6 2 _ 104 _ rfl rfl rfl (by kernel_rfl) (waits haft 6 (by kernel_rfl)); (try dsimp only at t105 t106); refine go_in (wanted_at rfl rfl rfl tg rfl) ?_; intro K hk; clear haft hK tg hLi; go_simp; exact hS.go hk rfl
                    apply LinAll.cons0
                    · intro g L a x hLi haft hS hK; have t107 := hK.new 9 0 _ 107 _ rfl rfl rfl (by kernel_rfl) (waits haft 9 (by kernel_rfl)); have tg := hK.new 6 3 _ 104 _ rfl rfl rfl (by kernel_rfl) (waits haft 6 (by kernel_rfl)); (try dsimp only at t107); refine go_in (wanted_at rfl rfl rfl tg rfl) ?_; intro K hk; clear haft hK tg hLi; go_simp; exact hS.go hk rfl
                    apply LinAll.cons0
                    · intro g L a x hLi haft hS hK; have t17 := (hK.old 17 (by kernel_rfl)).trans o17; have tg := hK.new 10 0 _ 108 _ rfl rfl rfl (by kernel_rfl) (waits haft 10 (by kernel_rfl)); (try dsimp only at t17); refine go_in (wanted_at rfl rfl rfl tg rfl) ?_; intro K hk; obtain ⟨c0, c1, c2⟩ := (hS.own _ (.tail _ (.tail _ (.tail _ (.tail _ (.tail _ (.tail _ (.head _)))))))).2.get3; clear haft hK tg hLi; go_simp; exact hS.go hk rfl
                    apply LinAll.cons0
                    · intro g L a x hLi haft hS hK; have t109 := hK.new 11 0 _ 109 _ rfl rfl rfl (by kernel_rfl) (waits haft 11 (by kernel_rfl)); have tg := hK.new 10 1 _ 108 _ rfl rfl rfl (by kernel_rfl) (waits haft 10 (by kernel_rfl)); (try dsimp only at t109); refine go_in (wanted_at rfl rfl rfl tg rfl) ?_; intro K hk; clear haft hK tg hLi; go_simp; refine (MT.out _).mono ?_; rintro e y ⟨rfl, hb⟩; exact hS.on hk hb rfl
                    apply LinAll.cons0
                    · intro g L a x hLi haft hS hK; have t11 := (hK.old 11 (by kernel_rfl)).trans o11; have tg := hK.new 10 2 _ 108 _ rfl rfl rfl (by kernel_rfl) (waits haft 10 (by kernel_rfl)); (try dsimp only at t11); refine go_in (wanted_at rfl rfl rfl tg rfl) ?_; intro K hk; obtain ⟨c0, c1, c2⟩ := (hS.own _ (.head _)).2.get3; clear haft hK tg hLi; go_simp; exact hS.go hk rfl
                    apply LinAll.cons0
                    · intro g L a x hLi haft hS hK; have t111 := hK.new 13 0 _ 111 _ rfl rfl rfl (by kernel_rfl) (waits haft 13 (by kernel_rfl)); have tg := hK.new 10 3 _ 108 _ rfl rfl rfl (by kernel_rfl) (waits haft 10 (by kernel_rfl)); (try dsimp only at t111); refine go_in (wanted_at rfl rfl rfl tg rfl) ?_; intro K hk; clear haft hK tg hLi; go_simp; refine (MA.out _).mono ?_; rintro e y ⟨rfl, hb⟩; exact hS.on hk hb rfl
                    apply LinAll.cons0
                    · intro g L a x hLi haft hS hK; have t110 := hK.new 12 2 _ 110 _ rfl rfl rfl (by kernel_rfl) (waits haft 12 (by kernel_rfl)); have t112 := hK.new 14 0 _ 112 _ rfl rfl rfl (by kernel_rfl) (waits haft 14 (by kernel_rfl)); have tg := hK.new 10 4 _ 108 _ rfl rfl rfl (by kernel_rfl) (waits haft 10 (by kernel_rfl)); (try dsimp only at t110 t112); refine go_in (wanted_at rfl rfl rfl tg rfl) ?_; intro K hk; clear haft hK tg hLi; go_simp; exact hS.go hk rfl
                    apply LinAll.cons0
                    · intro g L a x hLi haft hS hK; have t108 := hK.new 10 5 _ 108 _ rfl rfl rfl (by kernel_rfl) (waits haft 10 (by kernel_rfl)); have t113 := hK.new 15 0 _ 113 _ rfl rfl rfl (by kernel_rfl) (waits haft 15 (by kernel_rfl)); have tg := hK.new 6 9 _ 104 _ rfl rfl rfl (by kernel_rfl) (waits haft 6 (by kernel_rfl)); (try dsimp only at t108 t113); refine go_in (wanted_at rfl rfl rfl tg rfl) ?_; intro K hk; clear haft hK tg hLi; go_simp; exact hS.go hk rfl
                    apply LinAll.cons0
                    · intro g L a x hLi haft hS hK; have t104 := hK.new 6 10 _ 104 _ rfl rfl rfl (by kernel_rfl) (waits haft 6 (by kernel_rfl)); have t114 := hK.new 16 0 _ 114 _ rfl rfl rfl (by kernel_rfl) (waits haft 16 (by kernel_rfl)); (try dsimp only at t104 t114); refine go_in (wanted_all rfl) ?_; intro K hk; clear haft hK hLi; go_simp; exact hS.go hk rfl
                    apply LinAll.cons0
                    · intro g L a x hLi haft hS hK; have t115 := hK.new 17 0 _ 115 _ rfl rfl rfl (by kernel_rfl) (waits haft 17 (by kernel_rfl)); (try dsimp only at t115); refine go_in (wanted_all rfl) ?_; intro K hk; clear haft hK hLi; go_simp; exact hS.go hk rfl
                    apply LinAll.cons0
                    · intro g L a x hLi haft hS hK; have t18 := (hK.old 18 (by kernel_rfl)).trans o18; have tg := hK.new 18 0 _ 116 _ rfl rfl rfl (by kernel_rfl) (waits haft 18 (by kernel_rfl)); (try dsimp only at t18); refine go_in (wanted_at rfl rfl rfl tg rfl) ?_; intro K hk; obtain ⟨c0, c1, c2⟩ := (hS.own _ (.tail _ (.tail _ (.tail _ (.tail _ (.tail _ (.tail _ (.tail _ (.head _))))))))).2.get3; clear haft hK tg hLi; go_simp; exact hS.go hk rfl
                    apply LinAll.cons0
                    · intro g L a x hLi haft hS hK; have t17 := (hK.old 17 (by kernel_rfl)).trans o17; have tg := hK.new 18 1 _ 116 _ rfl rfl rfl (by kernel_rfl) (waits haft 18 (by kernel_rfl)); (try dsimp only at t17); refine go_in (wanted_at rfl rfl rfl tg rfl) ?_; intro K hk; obtain ⟨c0, c1, c2⟩ := (hS.own _ (.tail _ (.tail _ (.tail _ (.tail _ (.tail _ (.tail _ (.head _)))))))).2.get3; clear haft hK tg hLi; go_simp; exact hS.go hk rfl
                    apply LinAll.cons0
                    · intro g L a x hLi haft hS hK; have t117 := hK.new 19 1 _ 117 _ rfl rfl rfl (by kernel_rfl) (waits haft 19 (by kernel_rfl)); have t118 := hK.new 20 0 _ 118 _ rfl rfl rfl (by kernel_rfl) (waits haft 20 (by kernel_rfl)); have tg := hK.new 18 2 _ 116 _ rfl rfl rfl (by kernel_rfl) (waits haft 18 (by kernel_rfl)); (try dsimp only at t117 t118); refine go_in (wanted_at rfl rfl rfl tg rfl) ?_; intro K hk; clear haft hK tg hLi; go_simp; exact hS.go hk rfl
                    apply LinAll.cons0
                    · intro g L a x hLi haft hS hK; have t119 := hK.new 21 0 _ 119 _ rfl rfl rfl (by kernel_rfl) (waits haft 21 (by kernel_rfl)); have tg := hK.new 18 3 _ 116 _ rfl rfl rfl (by kernel_rfl) (waits haft 18 (by kernel_rfl)); (try dsimp only at t119); refine go_in (wanted_at rfl rfl rfl tg rfl) ?_; intro K hk; clear haft hK tg hLi; go_simp; exact hS.go hk rfl
                    apply LinAll.cons0
                    · intro g L a x hLi haft hS hK; have t17 := (hK.old 17 (by kernel_rfl)).trans o17; have tg := hK.new 22 0 _ 120 _ rfl rfl rfl (by kernel_rfl) (waits haft 22 (by kernel_rfl)); (try dsimp only at t17); refine go_in (wanted_at rfl rfl rfl tg rfl) ?_; intro K hk; obtain ⟨c0, c1, c2⟩ := (hS.own _ (.tail _ (.tail _ (.tail _ (.tail _ (.tail _ (.tail _ (.head _)))))))).2.get3; clear haft hK tg hLi; go_simp; exact hS.go hk rfl
                    apply LinAll.cons0
                    · intro g L a x hLi haft hS hK; have t12 := (hK.old 12 (by kernel_rfl)).trans o12; have tg := hK.new 22 1 _ 120 _ rfl rfl rfl (by kernel_rfl) (waits haft 22 (by kernel_rfl)); (try dsimp only at t12); refine go_in (wanted_at rfl rfl rfl tg rfl) ?_; intro K hk; obtain ⟨c0, c1, c2⟩ := (hS.own _ (.tail _ (.head _))).2.get3; clear haft hK tg hLi; go_simp; exact hS.go hk rfl
                    apply LinAll.cons0
                    · intro g L a x hLi haft hS hK; have t121 := hK.new 23 1 _ 121 _ rfl rfl rfl (by kernel_rfl) (waits haft 23 (by kernel_rfl)); have t122 := hK.new 24 0 _ 122 _ rfl rfl rfl (by kernel_rfl) (waits haft 24 (by kernel_rfl)); have tg := hK.new 22 2 _ 120 _ rfl rfl rfl (by kernel_rfl) (waits haft 22 (by kernel_rfl)); (try dsimp only at t121 t122); refine go_in (wanted_at rfl rfl rfl tg rfl) ?_; intro K hk; clear haft hK tg hLi; go_simp; refine (HSM.out _).mono ?_; rintro e y ⟨rfl, hb⟩; exact hS.on hk hb rfl
                    apply LinAll.cons0
                    · intro g L a x hLi haft hS hK; have t18 := (hK.old 18 (by kernel_rfl)).trans o18; have tg := hK.new 22 3 _ 120 _ rfl rfl rfl (by kernel_rfl) (waits haft 22 (by kernel_rfl)); (try dsimp only at t18); refine go_in (wanted_at rfl rfl rfl tg rfl) ?_; intro K hk; obtain ⟨c0, c1, c2⟩ := (hS.own _ (.tail _ (.tail _ (.tail _ (.tail _ (.tail _ (.tail _ (.tail _ (.head _))))))))).2.get3; clear haft hK tg hLi; go_simp; exact hS.go hk rfl
                    apply LinAll.cons0
                    · intro g L a x hLi haft hS hK; have t123 := hK.new 25 1 _ 123 _ rfl rfl rfl (by kernel_rfl) (waits haft 25 (by kernel_rfl)); have t124 := hK.new 26 0 _ 124 _ rfl rfl rfl (by kernel_rfl) (waits haft 26 (by kernel_rfl)); have tg := hK.new 22 4 _ 120 _ rfl rfl rfl (by kernel_rfl) (waits haft 22 (by kernel_rfl)); (try dsimp only at t123 t124); refine go_in (wanted_at rfl rfl rfl tg rfl) ?_; intro K hk; clear haft hK tg hLi; go_simp; exact hS.go hk rfl
                    apply LinAll.cons0
                    · intro g L a x hLi haft hS hK; have t120 := hK.new 22 5 _ 120 _ rfl rfl rfl (by kernel_rfl) (waits haft 22 (by kernel_rfl)); have t125 := hK.new 27 0 _ 125 _ rfl rfl rfl (by kernel_rfl) (waits haft 27 (by kernel_rfl)); have tg := hK.new 18 9 _ 116 _ rfl rfl rfl (by kernel_rfl) (waits haft 18 (by kernel_rfl)); (try dsimp only at t120 t125); refine go_in (wanted_at rfl rfl rfl tg rfl) ?_; intro K hk; clear haft hK tg hLi; go_simp; exact hS.go hk rfl
                    apply LinAll.cons0
                    · intro g L a x hLi haft hS hK; have t116 := hK.new 18 10 _ 116 _ rfl rfl rfl (by kernel_rfl) (waits haft 18 (by kernel_rfl)); have t126 := hK.new 28 0 _ 126 _ rfl rfl rfl (by kernel_rfl) (waits haft 28 (by kernel_rfl)); (try dsimp only at t116 t126); refine go_in (wanted_all rfl) ?_; intro K hk; clear haft hK hLi; go_simp; exact hS.go hk rfl
                    apply LinAll.cons0
                    · intro g L a x hLi haft hS hK; have t127 := hK.new 29 0 _ 127 _ rfl rfl rfl (by kernel_rfl) (waits haft 29 (by kernel_rfl)); (try dsimp only at t127); refine go_in (wanted_all rfl) ?_; intro K hk; clear haft hK hLi; go_simp; exact hS.go hk rfl
                    refine LinAll.nil fun g x hS => ?_
                    subst ha0
                    simp only [Act.put, List.setIfInBounds_toArray, List.set_cons_zero, List.set_cons_succ]
                    clear o11 o12 o13 o17 o18 o19
                    have KL := And.intro (hS.own _ (.head _)).2.get3 (And.intro (hS.own _ (.tail _ (.head _))).2.get3 (And.intro (hS.own _ (.tail _ (.tail _ (.head _)))).2.get3 (And.intro (hS.own _ (.tail _ (.tail _ (.tail _ (.head _))))).2.get3 (And.intro (hS.own _ (.tail _ (.tail _ (.tail _ (.tail _ (.head _)))))).2.get3 (And.intro (hS.own _ (.tail _ (.tail _ (.tail _ (.tail _ (.tail _ (.head _))))))).2.get3 (And.intro (hS.own _ (.tail _ (.tail _ (.tail _ (.tail _ (.tail _ (.tail _ (.head _)))))))).2.get3 (hS.own _ (.tail _ (.tail _ (.tail _ (.tail _ (.tail _ (.tail _ (.tail _ (.head _))))))))).2.get3))))))
                    have hBq := hS.below
                    have hBs := hBq.size
                    clear hS
                    go_wp2_with fail
                    go_ret
                    exact ⟨rfl, by go_grown⟩
              · skip
                have e1 : eqB DM Z = false := eqB_no p1
                have e1b : bM = bB := Y1.out.resolve_left p1
                subst e1b
                clear p1 Y1
                by_cases p2 : DT = Z
                · have e2 : eqB DT Z = true := eqB_yes p2
                  clear p2 Y2
                  by_cases p3 : DM = DT
                  · have e3 : eqB DM DT = true := eqB_yes p3
                    clear p3 Y3
                    refine wp_named fun a0 ha0 => ?_
                    have o11 := old_at ha0 (t := 11) rfl
                    have o12 := old_at ha0 (t := 12) rfl
                    have o13 := old_at ha0 (t := 13) rfl
                    have o17 := old_at ha0 (t := 17) rfl
                    have o18 := old_at ha0 (t := 18) rfl
                    have o19 := old_at ha0 (t := 19) rfl
                    refine wp_region_lin (S := SS w _ [(w3.heap.size, [.int .i64 W, .int .u64 (LO (n)), .int .u64 (HI (n))]), (w3.heap.size + 1, [.int .i64 W, .int .u64 (LO (m)), .int .u64 (HI (m))]), (w3.heap.size + 1 + 1, [.int .i64 W, .int .u64 (LO (Z)), .int .u64 (HI (Z))]), (b1, [.int .i64 W, .int .u64 (LO (DQ)), .int .u64 (HI (DQ))]), (b2, [.int .i64 W, .int .u64 (LO (DR)), .int .u64 (HI (DR))]), (b3, [.int .i64 W, .int .u64 (LO (DS)), .int .u64 (HI (DS))]), (b4, [.int .i64 W, .int .u64 (LO (DT)), .int .u64 (HI (DT))]), (w4.heap.size, [.int .i64 W, .int .u64 (LO (DM)), .int .u64 (HI (DM))])] []) [] (fun _ => 0) (by kernel_rfl) (by kernel_rfl) (by rw [← ha0]; kernel_rfl) (SS.start (by first | assumption | go_grown) ?_) ?_
                    · intro p hp; simp only [List.mem_cons, List.not_mem_nil, or_false] at hp; rcases hp with rfl | rfl | rfl | rfl | rfl | rfl | rfl | rfl; all_goals exact ⟨At.three (by simp [go_sem, KF1]) (by simp [go_sem, KF1]) (by simp [go_sem, KF1]), by simp⟩
                    apply LinAll.cons0
                    · intro g L a x hLi haft hS hK; have t18 := (hK.old 18 (by kernel_rfl)).trans o18; (try dsimp only at t18); refine go_in (wanted_all rfl) ?_; intro K hk; obtain ⟨c0, c1, c2⟩ := (hS.own _ (.tail _ (.tail _ (.tail _ (.tail _ (.tail _ (.tail _ (.tail _ (.head _))))))))).2.get3; clear haft hK hLi; go_simp; exact hS.go hk rfl
                    apply LinAll.cons0
                    · intro g L a x hLi haft hS hK; have t13 := (hK.old 13 (by kernel_rfl)).trans o13; (try dsimp only at t13); refine go_in (wanted_all rfl) ?_; intro K hk; obtain ⟨c0, c1, c2⟩ := (hS.own _ (.tail _ (.tail _ (.head _)))).2.get3; clear haft hK hLi; go_simp; exact hS.go hk rfl
                    apply LinAll.cons0
                    · intro g L a x hLi haft hS hK; have t98 := hK.new 0 1 _ 98 _ rfl rfl rfl (by kernel_rfl) (waits haft 0 (by kernel_rfl)); have t99 := hK.new 1 0 _ 99 _ rfl rfl rfl (by kernel_rfl) (waits haft 1 (by kernel_rfl)); (try dsimp only at t98 t99); refine go_in (wanted_all rfl) ?_; intro K hk; clear haft hK hLi; go_simp; exact hS.go hk rfl
                    apply LinAll.cons0
                    · intro g L a x hLi haft hS hK; have t100 := hK.new 2 0 _ 100 _ rfl rfl rfl (by kernel_rfl) (waits haft 2 (by kernel_rfl)); (try dsimp only at t100); refine go_in (wanted_all rfl) ?_; intro K hk; clear haft hK hLi; go_simp; exact hS.go hk rfl
                    apply LinAll.cons0
                    · intro g L a x hLi haft hS hK; have t19 := (hK.old 19 (by kernel_rfl)).trans o19; have tg := hK.new 3 0 _ 101 _ rfl rfl rfl (by kernel_rfl) (waits haft 3 (by kernel_rfl)); (try dsimp only at t19); refine go_in (wanted_at rfl rfl rfl tg rfl) ?_; intro K hk; clear haft hK tg hLi; go_simp; exact hS.go hk rfl
                    apply LinAll.cons0
                    · intro g L a x hLi haft hS hK; have t101 := hK.new 3 1 _ 101 _ rfl rfl rfl (by kernel_rfl) (waits haft 3 (by kernel_rfl)); have t102 := hK.new 4 0 _ 102 _ rfl rfl rfl (by kernel_rfl) (waits haft 4 (by kernel_rfl)); (try dsimp only at t101 t102); refine go_in (wanted_all rfl) ?_; intro K hk; clear haft hK hLi; go_simp; exact hS.go hk rfl
                    apply LinAll.cons0
                    · intro g L a x hLi haft hS hK; have t103 := hK.new 5 0 _ 103 _ rfl rfl rfl (by kernel_rfl) (waits haft 5 (by kernel_rfl)); (try dsimp only at t103); refine go_in (wanted_all rfl) ?_; intro K hk; clear haft hK hLi; go_simp; exact hS.go hk rfl
                    apply LinAll.cons0
                    · intro g L a x hLi haft hS hK; have t17 := (hK.old 17 (by kernel_rfl)).trans o17; have tg := hK.new 6 0 _ 104 _ rfl rfl rfl (by kernel_rfl) (waits haft 6 (by kernel_rfl)); (try dsimp only at t17); refine go_in (wanted_at rfl rfl rfl tg rfl) ?_; intro K hk; obtain ⟨c0, c1, c2⟩ := (hS.own _ (.tail _ (.tail _ (.tail _ (.tail _ (.tail _ (.tail _ (.head _)))))))).2.get3; clear haft hK tg hLi; go_simp; exact hS.go hk rfl
                    apply LinAll.cons0
                    · intro g L a x hLi haft hS hK; have t13 := (hK.old 13 (by kernel_rfl)).trans o13; have tg := hK.new 6 1 _ 104 _ rfl rfl rfl (by kernel_rfl) (waits haft 6 (by kernel_rfl)); (try dsimp only at t13); refine go_in (wanted_at rfl rfl rfl tg rfl) ?_; intro K hk; obtain ⟨c0, c1, c2⟩ := (hS.own _ (.tail _ (.tail _ (.head _)))).2.get3; clear haft hK tg hLi; go_simp; exact hS.go hk rfl
                    apply LinAll.cons0
                    · intro g L a x hLi haft hS hK; have t105 := hK.new 7 1 _ 105 _ rfl rfl rfl (by kernel_rfl) (waits haft 7 (by kernel_rfl)); have t106 := hK.new 8 0 _ 106 _ rfl rfl rfl (by kernel_rfl) (waits haft 8 (by kernel_rfl)); have tg := hK.new 6 2 _ 104 _ rfl rfl rfl (by kernel_rfl) (waits haft 6 (by kernel_rfl)); (try dsimp only at t105 t106); refine go_in (wanted_at rfl rfl rfl tg rfl) ?_; intro K hk; clear haft hK tg hLi; go_simp; exact hS.go hk rfl
                    apply LinAll.cons0
                    · intro g L a x hLi haft hS hK; have t107 := hK.new 9 0 _ 107 _ rfl rfl rfl (by kernel_rfl) (waits haft 9 (by kernel_rfl)); have tg := hK.new 6 3 _ 104 _ rfl rfl rfl (by kernel_rfl) (waits haft 6 (by kernel_rfl)); (try dsimp only at t107); refine go_in (wanted_at rfl rfl rfl tg rfl) ?_; intro K hk; clear haft hK tg hLi; go_simp; exact hS.go hk rfl
                    apply LinAll.cons0
                    · intro g L a x hLi haft hS hK; have t17 := (hK.old 17 (by kernel_rfl)).trans o17; have tg := hK.new 10 0 _ 108 _ rfl rfl rfl (by kernel_rfl) (waits haft 10 (by kernel_rfl)); (try dsimp only at t17); exact go_out (wanted_at rfl rfl rfl tg rfl) ⟨rfl, hS.same rfl⟩
                    apply LinAll.cons0
                    · intro g L a x hLi haft hS hK; have t109 := hK.new 11 0 _ 109 _ rfl rfl rfl (by kernel_rfl) (waits haft 11 (by kernel_rfl)); have tg := hK.new 10 1 _ 108 _ rfl rfl rfl (by kernel_rfl) (waits haft 10 (by kernel_rfl)); (try dsimp only at t109); exact go_out (wanted_at rfl rfl rfl tg rfl) ⟨rfl, hS.same rfl⟩
                    apply LinAll.cons0
                    · intro g L a x hLi haft hS hK; have t11 := (hK.old 11 (by kernel_rfl)).trans o11; have tg := hK.new 10 2 _ 108 _ rfl rfl rfl (by kernel_rfl) (waits haft 10 (by kernel_rfl)); (try dsimp only at t11); exact go_out (wanted_at rfl rfl rfl tg rfl) ⟨rfl, hS.same rfl⟩
                    apply LinAll.cons0
                    · intro g L a x hLi haft hS hK; have t111 := hK.new 13 0 _ 111 _ rfl rfl rfl (by kernel_rfl) (waits haft 13 (by kernel_rfl)); have tg := hK.new 10 3 _ 108 _ rfl rfl rfl (by kernel_rfl) (waits haft 10 (by kernel_rfl)); (try dsimp only at t111); exact go_out (wanted_at rfl rfl rfl tg rfl) ⟨rfl, hS.same rfl⟩
                    apply LinAll.cons0
                    · intro g L a x hLi haft hS hK; have t110 := hK.new 12 2 _ 110 _ rfl rfl rfl (by kernel_rfl) (waits haft 12 (by kernel_rfl)); have t112 := hK.new 14 0 _ 112 _ rfl rfl rfl (by kernel_rfl) (waits haft 14 (by kernel_rfl)); have tg := hK.new 10 4 _ 108 _ rfl rfl rfl (by kernel_rfl) (waits haft 10 (by kernel_rfl)); (try dsimp only at t110 t112); exact go_out (wanted_at rfl rfl rfl tg rfl) ⟨rfl, hS.same rfl⟩
                    apply LinAll.cons0
                    · intro g L a x hLi haft hS hK; have t108 := hK.new 10 5 _ 108 _ rfl rfl rfl (by kernel_rfl) (waits haft 10 (by kernel_rfl)); have t113 := hK.new 15 0 _ 113 _ rfl rfl rfl (by kernel_rfl) (waits haft 15 (by kernel_rfl)); have tg := hK.new 6 9 _ 104 _ rfl rfl rfl (by kernel_rfl) (waits haft 6 (by kernel_rfl)); (try dsimp only at t108 t113); refine go_in (wanted_at rfl rfl rfl tg rfl) ?_; intro K hk; clear haft hK tg hLi; go_simp; exact hS.go hk rfl
                    apply LinAll.cons0
                    · intro g L a x hLi haft hS hK; have t104 := hK.new 6 10 _ 104 _ rfl rfl rfl (by kernel_rfl) (waits haft 6 (by kernel_rfl)); have t114 := hK.new 16 0 _ 114 _ rfl rfl rfl (by kernel_rfl) (waits haft 16 (by kernel_rfl)); (try dsimp only at t104 t114); refine go_in (wanted_all rfl) ?_; intro K hk; clear haft hK hLi; go_simp; exact hS.go hk rfl
                    apply LinAll.cons0
                    · intro g L a x hLi haft hS hK; have t115 := hK.new 17 0 _ 115 _ rfl rfl rfl (by kernel_rfl) (waits haft 17 (by kernel_rfl)); (try dsimp only at t115); refine go_in (wanted_all rfl) ?_; intro K hk; clear haft hK hLi; go_simp; exact hS.go hk rfl
                    apply LinAll.cons0
                    · intro g L a x hLi haft hS hK; have t18 := (hK.old 18 (by kernel_rfl)).trans o18; have tg := hK.new 18 0 _ 116 _ rfl rfl rfl (by kernel_rfl) (waits haft 18 (by kernel_rfl)); (try dsimp only at t18); refine go_in (wanted_at rfl rfl rfl tg rfl) ?_; intro K hk; obtain ⟨c0, c1, c2⟩ := (hS.own _ (.tail _ (.tail _ (.tail _ (.tail _ (.tail _ (.tail _ (.tail _ (.head _))))))))).2.get3; clear haft hK tg hLi; go_simp; exact hS.go hk rfl
                    apply LinAll.cons0
                    · intro g L a x hLi haft hS hK; have t17 := (hK.old 17 (by kernel_rfl)).trans o17; have tg := hK.new 18 1 _ 116 _ rfl rfl rfl (by kernel_rfl) (waits haft 18 (by kernel_rfl)); (try dsimp only at t17); refine go_in (wanted_at rfl rfl rfl tg rfl) ?_; intro K hk; obtain ⟨c0, c1, c2⟩ := (hS.own _ (.tail _ (.tail _ (.tail _ (.tail _ (.tail _ (.tail _ (.head _)))))))).2.get3; clear haft hK tg hLi; go_simp; exact hS.go hk rfl
                    apply LinAll.cons0
                    · intro g L a x hLi haft hS hK; have t117 := hK.new 19 1 _ 117 _ rfl rfl rfl (by kernel_rfl) (waits haft 19 (by kernel_rfl)); have t118 := hK.new 20 0 _ 118 _ rfl rfl rfl (by kernel_rfl) (waits haft 20 (by kernel_rfl)); have tg := hK.new 18 2 _ 116 _ rfl rfl rfl (by kernel_rfl) (waits haft 18 (by kernel_rfl)); (try dsimp only at t117 t118); refine go_in (wanted_at rfl rfl rfl tg rfl) ?_; intro K hk; clear haft hK tg hLi; go_simp; exact hS.go hk rfl
                    apply LinAll.cons0
                    · intro g L a x hLi haft hS hK; have t119 := hK.new 21 0 _ 119 _ rfl rfl rfl (by kernel_rfl) (waits haft 21 (by kernel_rfl)); have tg := hK.new 18 3 _ 116 _ rfl rfl rfl (by kernel_rfl) (waits haft 18 (by kernel_rfl)); (try dsimp only at t119); refine go_in (wanted_at rfl rfl rfl tg rfl) ?_; intro K hk; clear haft hK tg hLi; go_simp; exact hS.go hk rfl
                    apply LinAll.cons0
                    · intro g L a x hLi haft hS hK; have t17 := (hK.old 17 (by kernel_rfl)).trans o17; have tg := hK.new 22 0 _ 120 _ rfl rfl rfl (by kernel_rfl) (waits haft 22 (by kernel_rfl)); (try dsimp only at t17); exact go_out (wanted_at rfl rfl rfl tg rfl) ⟨rfl, hS.same rfl⟩
                    apply LinAll.cons0
                    · intro g L a x hLi haft hS hK; have t12 := (hK.old 12 (by kernel_rfl)).trans o12; have tg := hK.new 22 1 _ 120 _ rfl rfl rfl (by kernel_rfl) (waits haft 22 (by kernel_rfl)); (try dsimp only at t12); exact go_out (wanted_at rfl rfl rfl tg rfl) ⟨rfl, hS.same rfl⟩
                    apply LinAll.cons0
                    · intro g L a x hLi haft hS hK; have t121 := hK.new 23 1 _ 121 _ rfl rfl rfl (by kernel_rfl) (waits haft 23 (by kernel_rfl)); have t122 := hK.new 24 0 _ 122 _ rfl rfl rfl (by kernel_rfl) (waits haft 24 (by kernel_rfl)); have tg := hK.new 22 2 _ 120 _ rfl rfl rfl (by kernel_rfl) (waits haft 22 (by kernel_rfl)); (try dsimp only at t121 t122); exact go_out (wanted_at rfl rfl rfl tg rfl) ⟨rfl, hS.same rfl⟩
                    apply LinAll.cons0
                    · intro g L a x hLi haft hS hK; have t18 := (hK.old 18 (by kernel_rfl)).trans o18; have tg := hK.new 22 3 _ 120 _ rfl rfl rfl (by kernel_rfl) (waits haft 22 (by kernel_rfl)); (try dsimp only at t18); exact go_out (wanted_at rfl rfl rfl tg rfl) ⟨rfl, hS.same rfl⟩
                    apply LinAll.cons0
                    · intro g L a x hLi haft hS hK; have t123 := hK.new 25 1 _ 123 _ rfl rfl rfl (by kernel_rfl) (waits haft 25 (by kernel_rfl)); have t124 := hK.new 26 0 _ 124 _ rfl rfl rfl (by kernel_rfl) (waits haft 26 (by kernel_rfl)); have tg := hK.new 22 4 _ 120 _ rfl rfl rfl (by kernel_rfl) (waits haft 22 (by kernel_rfl)); (try dsimp only at t123 t124); exact go_out (wanted_at rfl rfl rfl tg rfl) ⟨rfl, hS.same rfl⟩
                    apply LinAll.cons0
                    · intro g L a x hLi haft hS hK; have t120 := hK.new 22 5 _ 120 _ rfl rfl rfl (by kernel_rfl) (waits haft 22 (by kernel_rfl)); have t125 := hK.new 27 0 _ 125 _ rfl rfl rfl (by kernel_rfl) (waits haft 27 (by kernel_rfl)); have tg := hK.new 18 9 _ 116 _ rfl rfl rfl (by kernel_rfl) (waits haft 18 (by kernel_rfl)); (try dsimp only at t120 t125); refine go_in (wanted_at rfl rfl rfl tg rfl) ?_; intro K hk; clear haft hK tg hLi; go_simp; exact hS.go hk rfl
                    apply LinAll.cons0
                    · intro g L a x hLi haft hS hK; have t116 := hK.new 18 10 _ 116 _ rfl rfl rfl (by kernel_rfl) (waits haft 18 (by kernel_rfl)); have t126 := hK.new 28 0 _ 126 _ rfl rfl rfl (by kernel_rfl) (waits haft 28 (by kernel_rfl)); (try dsimp only at t116 t126); refine go_in (wanted_all rfl) ?_; intro K hk; clear haft hK hLi; go_simp; exact hS.go hk rfl
                    apply LinAll.cons0
                    · intro g L a x hLi haft hS hK; have t127 := hK.new 29 0 _ 127 _ rfl rfl rfl (by kernel_rfl) (waits haft 29 (by kernel_rfl)); (try dsimp only at t127); refine go_in (wanted_all rfl) ?_; intro K hk; clear haft hK hLi; go_simp; exact hS.go hk rfl
                    refine LinAll.nil fun g x hS => ?_
                    subst ha0
                    simp only [Act.put, List.setIfInBounds_toArray, List.set_cons_zero, List.set_cons_succ]
                    clear o11 o12 o13 o17 o18 o19
                    have KL := And.intro (hS.own _ (.head _)).2.get3 (And.intro (hS.own _ (.tail _ (.head _))).2.get3 (And.intro (hS.own _ (.tail _ (.tail _ (.head _)))).2.get3 (And.intro (hS.own _ (.tail _ (.tail _ (.tail _ (.head _))))).2.get3 (And.intro (hS.own _ (.tail _ (.tail _ (.tail _ (.tail _ (.head _)))))).2.get3 (And.intro (hS.own _ (.tail _ (.tail _ (.tail _ (.tail _ (.tail _ (.head _))))))).2.get3 (And.intro (hS.own _ (.tail _ (.tail _ (.tail _ (.tail _ (.tail _ (.tail _ (.head _)))))))).2.get3 (hS.own _ (.tail _ (.tail _ (.tail _ (.tail _ (.tail _ (.tail _ (.tail _ (.head _))))))))).2.get3))))))
                    have hBq := hS.below
                    have hBs := hBq.size
                    clear hS
                    go_wp2_with fail
                    go_ret
                    exact ⟨rfl, by go_grown⟩
                  · have e3 : eqB DM DT = false := eqB_no p3
                    have e3b : eqB SM DM = true := eqB_yes (Y3.out.resolve_left p3)
                    clear p3 Y3
                    refine wp_named fun a0 ha0 => ?_
                    have o11 := old_at ha0 (t := 11) rfl
                    have o12 := old_at ha0 (t := 12) rfl
                    have o13 := old_at ha0 (t := 13) rfl
                    have o17 := old_at ha0 (t := 17) rfl
                    have o18 := old_at ha0 (t := 18) rfl
                    have o19 := old_at ha0 (t := 19) rfl
                    refine wp_region_lin (S := SS w _ [(w3.heap.size, [.int .i64 W, .int .u64 (LO (n)), .int .u64 (HI (n))]), (w3.heap.size + 1, [.int .i64 W, .int .u64 (LO (m)), .int .u64 (HI (m))]), (w3.heap.size + 1 + 1, [.int .i64 W, .int .u64 (LO (Z)), .int .u64 (HI (Z))]), (b1, [.int .i64 W, .int .u64 (LO (DQ)), .int .u64 (HI (DQ))]), (b2, [.int .i64 W, .int .u64 (LO (DR)), .int .u64 (HI (DR))]), (b3, [.int .i64 W, .int .u64 (LO (DS)), .int .u64 (HI (DS))]), (b4, [.int .i64 W, .int .u64 (LO (DT)), .int .u64 (HI (DT))]), (w4.heap.size, [.int .i64 W, .int .u64 (LO (DM)), .int .u64 (HI (DM))])] []) [] (fun _ => 0) (by kernel_rfl) (by kernel_rfl) (by rw [← ha0]; kernel_rfl) (SS.start (by first | assumption | go_grown) ?_) ?_
                    · intro p hp; simp only [List.mem_cons, List.not_mem_nil, or_false] at hp; rcases hp with rfl | rfl | rfl | rfl | rfl | rfl | rfl | rfl; all_goals exact ⟨At.three (by simp [go_sem, KF1]) (by simp [go_sem, KF1]) (by simp [go_sem, KF1]), by simp⟩
                    apply LinAll.cons0
                    · intro g L a x hLi haft hS hK; have t18 := (hK.old 18 (by kernel_rfl)).trans o18; (try dsimp only at t18); refine go_in (wanted_all rfl) ?_; intro K hk; obtain ⟨c0, c1, c2⟩ := (hS.own _ (.tail _ (.tail _ (.tail _ (.tail _ (.tail _ (.tail _ (.tail _ (.head _))))))))).2.get3; clear haft hK hLi; go_simp; exact hS.go hk rfl
                    apply LinAll.cons0
                    · intro g L a x hLi haft hS hK; have t13 := (hK.old 13 (by kernel_rfl)).trans o13; (try dsimp only at t13); refine go_in (wanted_all rfl) ?_; intro K hk; obtain ⟨c0, c1, c2⟩ := (hS.own _ (.tail _ (.tail _ (.head _)))).2.get3; clear haft hK hLi; go_simp; exact hS.go hk rfl
                    apply LinAll.cons0
                    · intro g L a x hLi haft hS hK; have t98 := hK.new 0 1 _ 98 _ rfl rfl rfl (by kernel_rfl) (waits haft 0 (by kernel_rfl)); have t99 := hK.new 1 0 _ 99 _ rfl rfl rfl (by kernel_rfl) (waits haft 1 (by kernel_rfl)); (try dsimp only at t98 t99); refine go_in (wanted_all rfl) ?_; intro K hk; clear haft hK hLi; go_simp; exact hS.go hk rfl
                    apply LinAll.cons0
                    · intro g L a x hLi haft hS hK; have t100 := hK.new 2 0 _ 100 _ rfl rfl rfl (by kernel_rfl) (waits haft 2 (by kernel_rfl)); (try dsimp only at t100); refine go_in (wanted_all rfl) ?_; intro K hk; clear haft hK hLi; go_simp; exact hS.go hk rfl
                    apply LinAll.cons0
                    · intro g L a x hLi haft hS hK; have t19 := (hK.old 19 (by kernel_rfl)).trans o19; have tg := hK.new 3 0 _ 101 _ rfl rfl rfl (by kernel_rfl) (waits haft 3 (by kernel_rfl)); (try dsimp only at t19); refine go_in (wanted_at rfl rfl rfl tg rfl) ?_; intro K hk; clear haft hK tg hLi; go_simp; exact hS.go hk rfl
                    apply LinAll.cons0
                    · intro g L a x hLi haft hS hK; have t101 := hK.new 3 1 _ 101 _ rfl rfl rfl (by kernel_rfl) (waits haft 3 (by kernel_rfl)); have t102 := hK.new 4 0 _ 102 _ rfl rfl rfl (by kernel_rfl) (waits haft 4 (by kernel_rfl)); (try dsimp only at t101 t102); refine go_in (wanted_all rfl) ?_; intro K hk; clear haft hK hLi; go_simp; exact hS.go hk rfl
                    apply LinAll.cons0
                    · intro g L a x hLi haft hS hK; have t103 := hK.new 5 0 _ 103 _ rfl rfl rfl (by kernel_rfl) (waits haft 5 (by kernel_rfl)); (try dsimp only at t103); refine go_in (wanted_all rfl) ?_; intro K hk; clear haft hK hLi; go_simp; exact hS.go hk rfl
                    apply LinAll.cons0
                    · intro g L a x hLi haft hS hK; have t17 := (hK.old 17 (by kernel_rfl)).trans o17; have tg := hK.new 6 0 _ 104 _ rfl rfl rfl (by kernel_rfl) (waits haft 6 (by kernel_rfl)); (try dsimp only at t17); refine go_in (wanted_at rfl rfl rfl tg rfl) ?_; intro K hk; obtain ⟨c0, c1, c2⟩ := (hS.own _ (.tail _ (.tail _ (.tail _ (.tail _ (.tail _ (.tail _ (.head _)))))))).2.get3; clear haft hK tg hLi; go_simp; exact hS.go hk rfl
                    apply LinAll.cons0
                    · intro g L a x hLi haft hS hK; have t13 := (hK.old 13 (by kernel_rfl)).trans o13; have tg := hK.new 6 1 _ 104 _ rfl rfl rfl (by kernel_rfl) (waits haft 6 (by kernel_rfl)); (try dsimp only at t13); refine go_in (wanted_at rfl rfl rfl tg rfl) ?_; intro K hk; obtain ⟨c0, c1, c2⟩ := (hS.own _ (.tail _ (.tail _ (.head _)))).2.get3; clear haft hK tg hLi; go_simp; exact hS.go hk rfl
                    apply LinAll.cons0
                    · intro g L a x hLi haft hS hK; have t105 := hK.new 7 1 _ 105 _ rfl rfl rfl (by kernel_rfl) (waits haft 7 (by kernel_rfl)); have t106 := hK.new 8 0 _ 106 _ rfl rfl rfl (by kernel_rfl) (waits haft 8 (by kernel_rfl)); have tg := hK.new 6 2 _ 104 _ rfl rfl rfl (by kernel_rfl) (waits haft 6 (by kernel_rfl)); (try dsimp only at t105 t106); refine go_in (wanted_at rfl rfl rfl tg rfl) ?_; intro K hk; clear haft hK tg hLi; go_simp; exact hS.go hk rfl
                    apply LinAll.cons0
                    · intro g L a x hLi haft hS hK; have t107 := hK.new 9 0 _ 107 _ rfl rfl rfl (by kernel_rfl) (waits haft 9 (by kernel_rfl)); have tg := hK.new 6 3 _ 104 _ rfl rfl rfl (by kernel_rfl) (waits haft 6 (by kernel_rfl)); (try dsimp only at t107); refine go_in (wanted_at rfl rfl rfl tg rfl) ?_; intro K hk; clear haft hK tg hLi; go_simp; exact hS.go hk rfl
                    apply LinAll.cons0
                    · intro g L a x hLi haft hS hK; have t17 := (hK.old 17 (by kernel_rfl)).trans o17; have tg := hK.new 10 0 _ 108 _ rfl rfl rfl (by kernel_rfl) (waits haft 10 (by kernel_rfl)); (try dsimp only at t17); exact go_out (wanted_at rfl rfl rfl tg rfl) ⟨rfl, hS.same rfl⟩
                    apply LinAll.cons0
                    · intro g L a x hLi haft hS hK; have t109 := hK.new 11 0 _ 109 _ rfl rfl rfl (by kernel_rfl) (waits haft 11 (by kernel_rfl)); have tg := hK.new 10 1 _ 108 _ rfl rfl rfl (by kernel_rfl) (waits haft 10 (by kernel_rfl)); (try dsimp only at t109); exact go_out (wanted_at rfl rfl rfl tg rfl) ⟨rfl, hS.same rfl⟩
                    apply LinAll.cons0
                    · intro g L a x hLi haft hS hK; have t11 := (hK.old 11 (by kernel_rfl)).trans o11; have tg := hK.new 10 2 _ 108 _ rfl rfl rfl (by kernel_rfl) (waits haft 10 (by kernel_rfl)); (try dsimp only at t11); exact go_out (wanted_at rfl rfl rfl tg rfl) ⟨rfl, hS.same rfl⟩
                    apply LinAll.cons0
                    · intro g L a x hLi haft hS hK; have t111 := hK.new 13 0 _ 111 _ rfl rfl rfl (by kernel_rfl) (waits haft 13 (by kernel_rfl)); have tg := hK.new 10 3 _ 108 _ rfl rfl rfl (by kernel_rfl) (waits haft 10 (by kernel_rfl)); (try dsimp only at t111); exact go_out (wanted_at rfl rfl rfl tg rfl) ⟨rfl, hS.same rfl⟩
                    apply LinAll.cons0
                    · intro g L a x hLi haft hS hK; have t110 := hK.new 12 2 _ 110 _ rfl rfl rfl (by kernel_rfl) (waits haft 12 (by kernel_rfl)); have t112 := hK.new 14 0 _ 112 _ rfl rfl rfl (by kernel_rfl) (waits haft 14 (by kernel_rfl)); have tg := hK.new 10 4 _ 108 _ rfl rfl rfl (by kernel_rfl) (waits haft 10 (by kernel_rfl)); (try dsimp only at t110 t112); exact go_out (wanted_at rfl rfl rfl tg rfl) ⟨rfl, hS.same rfl⟩
                    apply LinAll.cons0
                    · intro g L a x hLi haft hS hK; have t108 := hK.new 10 5 _ 108 _ rfl rfl rfl (by kernel_rfl) (waits haft 10 (by kernel_rfl)); have t113 := hK.new 15 0 _ 113 _ rfl rfl rfl (by kernel_rfl) (waits haft 15 (by kernel_rfl)); have tg := hK.new 6 9 _ 104 _ rfl rfl rfl (by kernel_rfl) (waits haft 6 (by kernel_rfl)); (try dsimp only at t108 t113); refine go_in (wanted_at rfl rfl rfl tg rfl) ?_; intro K hk; clear haft hK tg hLi; go_simp; exact hS.go hk rfl
                    apply LinAll.cons0
                    · intro g L a x hLi haft hS hK; have t104 := hK.new 6 10 _ 104 _ rfl rfl rfl (by kernel_rfl) (waits haft 6 (by kernel_rfl)); have t114 := hK.new 16 0 _ 114 _ rfl rfl rfl (by kernel_rfl) (waits haft 16 (by kernel_rfl)); (try dsimp only at t104 t114); refine go_in (wanted_all rfl) ?_; intro K hk; clear haft hK hLi; go_simp; exact hS.go hk rfl
                    apply LinAll.cons0
                    · intro g L a x hLi haft hS hK; have t115 := hK.new 17 0 _ 115 _ rfl rfl rfl (by kernel_rfl) (waits haft 17 (by kernel_rfl)); (try dsimp only at t115); refine go_in (wanted_all rfl) ?_; intro K hk; clear haft hK hLi; go_simp; exact hS.go hk rfl
                    apply LinAll.cons0
                    · intro g L a x hLi haft hS hK; have t18 := (hK.old 18 (by kernel_rfl)).trans o18; have tg := hK.new 18 0 _ 116 _ rfl rfl rfl (by kernel_rfl) (waits haft 18 (by kernel_rfl)); (try dsimp only at t18); refine go_in (wanted_at rfl rfl rfl tg rfl) ?_; intro K hk; obtain ⟨c0, c1, c2⟩ := (hS.own _ (.tail _ (.tail _ (.tail _ (.tail _ (.tail _ (.tail _ (.tail _ (.head _))))))))).2.get3; clear haft hK tg hLi; go_simp; exact hS.go hk rfl
                    apply LinAll.cons0
                    · intro g L a x hLi haft hS hK; have t17 := (hK.old 17 (by kernel_rfl)).trans o17; have tg := hK.new 18 1 _ 116 _ rfl rfl rfl (by kernel_rfl) (waits haft 18 (by kernel_rfl)); (try dsimp only at t17); refine go_in (wanted_at rfl rfl rfl tg rfl) ?_; intro K hk; obtain ⟨c0, c1, c2⟩ := (hS.own _ (.tail _ (.tail _ (.tail _ (.tail _ (.tail _ (.tail _ (.head _)))))))).2.get3; clear haft hK tg hLi; go_simp; exact hS.go hk rfl
                    apply LinAll.cons0
                    · intro g L a x hLi haft hS hK; have t117 := hK.new 19 1 _ 117 _ rfl rfl rfl (by kernel_rfl) (waits haft 19 (by kernel_rfl)); have t118 := hK.new 20 0 _ 118 _ rfl rfl rfl (by kernel_rfl) (waits haft 20 (by kernel_rfl)); have tg := hK.new 18 2 _ 116 _ rfl rfl rfl (by kernel_rfl) (waits haft 18 (by kernel_rfl)); (try dsimp only at t117 t118); refine go_in (wanted_at rfl rfl rfl tg rfl) ?_; intro K hk; clear haft hK tg hLi; go_simp; exact hS.go hk rfl
                    apply LinAll.cons0
                    · intro g L a x hLi haft hS hK; have t119 := hK.new 21 0 _ 119 _ rfl rfl rfl (by kernel_rfl) (waits haft 21 (by kernel_rfl)); have tg := hK.new 18 3 _ 116 _ rfl rfl rfl (by kernel_rfl) (waits haft 18 (by kernel_rfl)); (try dsimp only at t119); refine go_in (wanted_at rfl rfl rfl tg rfl) ?_; intro K hk; clear haft hK tg hLi; go_simp; exact hS.go hk rfl
                    apply LinAll.cons0
                    · intro g L a x hLi haft hS hK; have t17 := (hK.old 17 (by kernel_rfl)).trans o17; have tg := hK.new 22 0 _ 120 _ rfl rfl rfl (by kernel_rfl) (waits haft 22 (by kernel_rfl)); (try dsimp only at t17); refine go_in (wanted_at rfl rfl rfl tg rfl) ?_; intro K hk; obtain ⟨c0, c1, c2⟩ := (hS.own _ (.tail _ (.tail _ (.tail _ (.tail _ (.tail _ (.tail _ (.head _)))))))).2.get3; clear haft hK tg hLi; go_simp; exact hS.go hk rfl
                    apply LinAll.cons0
                    · intro g L a x hLi haft hS hK; have t12 := (hK.old 12 (by kernel_rfl)).trans o12; have tg := hK.new 22 1 _ 120 _ rfl rfl rfl (by kernel_rfl) (waits haft 22 (by kernel_rfl)); (try dsimp only at t12); refine go_in (wanted_at rfl rfl rfl tg rfl) ?_; intro K hk; obtain ⟨c0, c1, c2⟩ := (hS.own _ (.tail _ (.head _))).2.get3; clear haft hK tg hLi; go_simp; exact hS.go hk rfl
                    apply LinAll.cons0
                    · intro g L a x hLi haft hS hK; have t121 := hK.new 23 1 _ 121 _ rfl rfl rfl (by kernel_rfl) (waits haft 23 (by kernel_rfl)); have t122 := hK.new 24 0 _ 122 _ rfl rfl rfl (by kernel_rfl) (waits haft 24 (by kernel_rfl)); have tg := hK.new 22 2 _ 120 _ rfl rfl rfl (by kernel_rfl) (waits haft 22 (by kernel_rfl)); (try dsimp only at t121 t122); refine go_in (wanted_at rfl rfl rfl tg rfl) ?_; intro K hk; clear haft hK tg hLi; go_simp; refine (HSM.out _).mono ?_; rintro e y ⟨rfl, hb⟩; exact hS.on hk hb rfl
                    apply LinAll.cons0
                    · intro g L a x hLi haft hS hK; have t18 := (hK.old 18 (by kernel_rfl)).trans o18; have tg := hK.new 22 3 _ 120 _ rfl rfl rfl (by kernel_rfl) (waits haft 22 (by kernel_rfl)); (try dsimp only at t18); refine go_in (wanted_at rfl rfl rfl tg rfl) ?_; intro K hk; obtain ⟨c0, c1, c2⟩ := (hS.own _ (.tail _ (.tail _ (.tail _ (.tail _ (.tail _ (.tail _ (.tail _ (.head _))))))))).2.get3; clear haft hK tg hLi; go_simp; exact hS.go hk rfl
                    apply LinAll.cons0
                    · intro g L a x hLi haft hS hK; have t123 := hK.new 25 1 _ 123 _ rfl rfl rfl (by kernel_rfl) (waits haft 25 (by kernel_rfl)); have t124 := hK.new 26 0 _ 124 _ rfl rfl rfl (by kernel_rfl) (waits haft 26 (by kernel_rfl)); have tg := hK.new 22 4 _ 120 _ rfl rfl rfl (by kernel_rfl) (waits haft 22 (by kernel_rfl)); (try dsimp only at t123 t124); refine go_in (wanted_at rfl rfl rfl tg rfl) ?_; intro K hk; clear haft hK tg hLi; go_simp; exact hS.go hk rfl
                    apply LinAll.cons0
                    · intro g L a x hLi haft hS hK; have t120 := hK.new 22 5 _ 120 _ rfl rfl rfl (by kernel_rfl) (waits haft 22 (by kernel_rfl)); have t125 := hK.new 27 0 _ 125 _ rfl rfl rfl (by kernel_rfl) (waits haft 27 (by kernel_rfl)); have tg := hK.new 18 9 _ 116 _ rfl rfl rfl (by kernel_rfl) (waits haft 18 (by kernel_rfl)); (try dsimp only at t120 t125); refine go_in (wanted_at rfl rfl rfl tg rfl) ?_; intro K hk; clear haft hK tg hLi; go_simp; exact hS.go hk rfl
                    apply LinAll.cons0
                    · intro g L a x hLi haft hS hK; have t116 := hK.new 18 10 _ 116 _ rfl rfl rfl (by kernel_rfl) (waits haft 18 (by kernel_rfl)); have t126 := hK.new 28 0 _ 126 _ rfl rfl rfl (by kernel_rfl) (waits haft 28 (by kernel_rfl)); (try dsimp only at t116 t126); refine go_in (wanted_all rfl) ?_; intro K hk; clear haft hK hLi; go_simp; exact hS.go hk rfl
                    apply LinAll.cons0
                    · intro g L a x hLi haft hS hK; have t127 := hK.new 29 0 _ 127 _ rfl rfl rfl (by kernel_rfl) (waits haft 29 (by kernel_rfl)); (try dsimp only at t127); refine go_in (wanted_all rfl) ?_; intro K hk; clear haft hK hLi; go_simp; exact hS.go hk rfl
                    refine LinAll.nil fun g x hS => ?_
                    subst ha0
                    simp only [Act.put, List.setIfInBounds_toArray, List.set_cons_zero, List.set_cons_succ]
                    clear o11 o12 o13 o17 o18 o19
                    have KL := And.intro (hS.own _ (.head _)).2.get3 (And.intro (hS.own _ (.tail _ (.head _))).2.get3 (And.intro (hS.own _ (.tail _ (.tail _ (.head _)))).2.get3 (And.intro (hS.own _ (.tail _ (.tail _ (.tail _ (.head _))))).2.get3 (And.intro (hS.own _ (.tail _ (.tail _ (.tail _ (.tail _ (.head _)))))).2.get3 (And.intro (hS.own _ (.tail _ (.tail _ (.tail _ (.tail _ (.tail _ (.head _))))))).2.get3 (And.intro (hS.own _ (.tail _ (.tail _ (.tail _ (.tail _ (.tail _ (.tail _ (.head _)))))))).2.get3 (hS.own _ (.tail _ (.tail _ (.tail _ (.tail _ (.tail _ (.tail _ (.tail _ (.head _))))))))).2.get3))))))
                    have hBq := hS.below
                    have hBs := hBq.size
                    clear hS
                    go_wp2_with fail
                    go_ret
                    exact ⟨rfl, by go_grown⟩
                · have e2 : eqB DT Z = false := eqB_no p2
                  have e2b : bT = bA := Y2.out.resolve_left p2
                  subst e2b
                  clear p2 Y2
                  by_cases p3 : DM = DT
                  · have e3 : eqB DM DT = true := eqB_yes p3
                    clear p3 Y3
                    refine wp_named fun a0 ha0 => ?_
                    have o11 := old_at ha0 (t := 11) rfl
                    have o12 := old_at ha0 (t := 12) rfl
                    have o13 := old_at ha0 (t := 13) rfl
                    have o17 := old_at ha0 (t := 17) rfl
                    have o18 := old_at ha0 (t := 18) rfl
                    have o19 := old_at ha0 (t := 19) rfl
                    refine wp_region_lin (S := SS w _ [(w3.heap.size, [.int .i64 W, .int .u64 (LO (n)), .int .u64 (HI (n))]), (w3.heap.size + 1, [.int .i64 W, .int .u64 (LO (m)), .int .u64 (HI (m))]), (w3.heap.size + 1 + 1, [.int .i64 W, .int .u64 (LO (Z)), .int .u64 (HI (Z))]), (b1, [.int .i64 W, .int .u64 (LO (DQ)), .int .u64 (HI (DQ))]), (b2, [.int .i64 W, .int .u64 (LO (DR)), .int .u64 (HI (DR))]), (b3, [.int .i64 W, .int .u64 (LO (DS)), .int .u64 (HI (DS))]), (b4, [.int .i64 W, .int .u64 (LO (DT)), .int .u64 (HI (DT))]), (w4.heap.size, [.int .i64 W, .int .u64 (LO (DM)), .int .u64 (HI (DM))])] []) [] (fun _ => 0) (by kernel_rfl) (by kernel_rfl) (by rw [← ha0]; kernel_rfl) (SS.start (by first | assumption | go_grown) ?_) ?_
                    · intro p hp; simp only [List.mem_cons, List.not_mem_nil, or_false] at hp; rcases hp with rfl | rfl | rfl | rfl | rfl | rfl | rfl | rfl; all_goals exact ⟨At.three (by simp [go_sem, KF1]) (by simp [go_sem, KF1]) (by simp [go_sem, KF1]), by simp⟩
                    apply LinAll.cons0
                    · intro g L a x hLi haft hS hK; have t18 := (hK.old 18 (by kernel_rfl)).trans o18; (try dsimp only at t18); refine go_in (wanted_all rfl) ?_; intro K hk; obtain ⟨c0, c1, c2⟩ := (hS.own _ (.tail _ (.tail _ (.tail _ (.tail _ (.tail _ (.tail _ (.tail _ (.head _))))))))).2.get3; clear haft hK hLi; go_simp; exact hS.go hk rfl
                    apply LinAll.cons0
                    · intro g L a x hLi haft hS hK; have t13 := (hK.old 13 (by kernel_rfl)).trans o13; (try dsimp only at t13); refine go_in (wanted_all rfl) ?_; intro K hk; obtain ⟨c0, c1, c2⟩ := (hS.own _ (.tail _ (.tail _ (.head _)))).2.get3; clear haft hK hLi; go_simp; exact hS.go hk rfl
                    apply LinAll.cons0
                    · intro g L a x hLi haft hS hK; have t98 := hK.new 0 1 _ 98 _ rfl rfl rfl (by kernel_rfl) (waits haft 0 (by kernel_rfl)); have t99 := hK.new 1 0 _ 99 _ rfl rfl rfl (by kernel_rfl) (waits haft 1 (by kernel_rfl)); (try dsimp only at t98 t99); refine go_in (wanted_all rfl) ?_; intro K hk; clear haft hK hLi; go_simp; exact hS.go hk rfl
                    apply LinAll.cons0
                    · intro g L a x hLi haft hS hK; have t100 := hK.new 2 0 _ 100 _ rfl rfl rfl (by kernel_rfl) (waits haft 2 (by kernel_rfl)); (try dsimp only at t100); refine go_in (wanted_all rfl) ?_; intro K hk; clear haft hK hLi; go_simp; exact hS.go hk rfl
                    apply LinAll.cons0
                    · intro g L a x hLi haft hS hK; have t19 := (hK.old 19 (by kernel_rfl)).trans o19; have tg := hK.new 3 0 _ 101 _ rfl rfl rfl (by kernel_rfl) (waits haft 3 (by kernel_rfl)); (try dsimp only at t19); refine go_in (wanted_at rfl rfl rfl tg rfl) ?_; intro K hk; clear haft hK tg hLi; go_simp; exact hS.go hk rfl
                    apply LinAll.cons0
                    · intro g L a x hLi haft hS hK; have t101 := hK.new 3 1 _ 101 _ rfl rfl rfl (by kernel_rfl) (waits haft 3 (by kernel_rfl)); have t102 := hK.new 4 0 _ 102 _ rfl rfl rfl (by kernel_rfl) (waits haft 4 (by kernel_rfl)); (try dsimp only at t101 t102); refine go_in (wanted_all rfl) ?_; intro K hk; clear haft hK hLi; go_simp; exact hS.go hk rfl
                    apply LinAll.cons0
                    · intro g L a x hLi haft hS hK; have t103 := hK.new 5 0 _ 103 _ rfl rfl rfl (by kernel_rfl) (waits haft 5 (by kernel_rfl)); (try dsimp only at t103); refine go_in (wanted_all rfl) ?_; intro K hk; clear haft hK hLi; go_simp; exact hS.go hk rfl
                    apply LinAll.cons0
                    · intro g L a x hLi haft hS hK; have t17 := (hK.old 17 (by kernel_rfl)).trans o17; have tg := hK.new 6 0 _ 104 _ rfl rfl rfl (by kernel_rfl) (waits haft 6 (by kernel_rfl)); (try dsimp only at t17); refine go_in (wanted_at rfl rfl rfl tg rfl) ?_; intro K hk; obtain ⟨c0, c1, c2⟩ := (hS.own _ (.tail _ (.tail _ (.tail _ (.tail _ (.tail _ (.tail _ (.head _)))))))).2.get3; clear haft hK tg hLi; go_simp; exact hS.go hk rfl
                    apply LinAll.cons0
                    · intro g L a x hLi haft hS hK; have t13 := (hK.old 13 (by kernel_rfl)).trans o13; have tg := hK.new 6 1 _ 104 _ rfl rfl rfl (by kernel_rfl) (waits haft 6 (by kernel_rfl)); (try dsimp only at t13); refine go_in (wanted_at rfl rfl rfl tg rfl) ?_; intro K hk; obtain ⟨c0, c1, c2⟩ := (hS.own _ (.tail _ (.tail _ (.head _)))).2.get3; clear haft hK tg hLi; go_simp; exact hS.go hk rfl
                    apply LinAll.cons0
                    · intro g L a x hLi haft hS hK; have t105 := hK.new 7 1 _ 105 _ rfl rfl rfl (by kernel_rfl) (waits haft 7 (by kernel_rfl)); have t106 := hK.new 8 0 _ 106 _ rfl rfl rfl (by kernel_rfl) (waits haft 8 (by kernel_rfl)); have tg := hK.new 6 2 _ 104 _ rfl rfl rfl (by kernel_rfl) (waits haft 6 (by kernel_rfl)); (try dsimp only at t105 t106); refine go_in (wanted_at rfl rfl rfl tg rfl) ?_; intro K hk; clear haft hK tg hLi; go_simp; exact hS.go hk rfl
                    apply LinAll.cons0
                    · intro g L a x hLi haft hS hK; have t107 := hK.new 9 0 _ 107 _ rfl rfl rfl (by kernel_rfl) (waits haft 9 (by kernel_rfl)); have tg := hK.new 6 3 _ 104 _ rfl rfl rfl (by kernel_rfl) (waits haft 6 (by kernel_rfl)); (try dsimp only at t107); refine go_in (wanted_at rfl rfl rfl tg rfl) ?_; intro K hk; clear haft hK tg hLi; go_simp; exact hS.go hk rfl
                    apply LinAll.cons0
                    · intro g L a x hLi haft hS hK; have t17 := (hK.old 17 (by kernel_rfl)).trans o17; have tg := hK.new 10 0 _ 108 _ rfl rfl rfl (by kernel_rfl) (waits haft 10 (by kernel_rfl)); (try dsimp only at t17); refine go_in (wanted_at rfl rfl rfl tg rfl) ?_; intro K hk; obtain ⟨c0, c1, c2⟩ := (hS.own _ (.tail _ (.tail _ (.tail _ (.tail _ (.tail _ (.tail _ (.head _)))))))).2.get3; clear haft hK tg hLi; go_simp; exact hS.go hk rfl
                    apply LinAll.cons0
                    · intro g L a x hLi haft hS hK; have t109 := hK.new 11 0 _ 109 _ rfl rfl rfl (by kernel_rfl) (waits haft 11 (by kernel_rfl)); have tg := hK.new 10 1 _ 108 _ rfl rfl rfl (by kernel_rfl) (waits haft 10 (by kernel_rfl)); (try dsimp only at t109); refine go_in (wanted_at rfl rfl rfl tg rfl) ?_; intro K hk; clear haft hK tg hLi; go_simp; refine (MT.out _).mono ?_; rintro e y ⟨rfl, hb⟩; exact hS.on hk hb rfl
                    apply LinAll.cons0
                    · intro g L a x hLi haft hS hK; have t11 := (hK.old 11 (by kernel_rfl)).trans o11; have tg := hK.new 10 2 _ 108 _ rfl rfl rfl (by kernel_rfl) (waits haft 10 (by kernel_rfl)); (try dsimp only at t11); refine go_in (wanted_at rfl rfl rfl tg rfl) ?_; intro K hk; obtain ⟨c0, c1, c2⟩ := (hS.own _ (.head _)).2.get3; clear haft hK tg hLi; go_simp; exact hS.go hk rfl
                    apply LinAll.cons0
                    · intro g L a x hLi haft hS hK; have t111 := hK.new 13 0 _ 111 _ rfl rfl rfl (by kernel_rfl) (waits haft 13 (by kernel_rfl)); have tg := hK.new 10 3 _ 108 _ rfl rfl rfl (by kernel_rfl) (waits haft 10 (by kernel_rfl)); (try dsimp only at t111); refine go_in (wanted_at rfl rfl rfl tg rfl) ?_; intro K hk; clear haft hK tg hLi; go_simp; refine (MA.out _).mono ?_; rintro e y ⟨rfl, hb⟩; exact hS.on hk hb rfl
                    apply LinAll.cons0
                    · intro g L a x hLi haft hS hK; have t110 := hK.new 12 2 _ 110 _ rfl rfl rfl (by kernel_rfl) (waits haft 12 (by kernel_rfl)); have t112 := hK.new 14 0 _ 112 _ rfl rfl rfl (by kernel_rfl) (waits haft 14 (by kernel_rfl)); have tg := hK.new 10 4 _ 108 _ rfl rfl rfl (by kernel_rfl) (waits haft 10 (by kernel_rfl)); (try dsimp only at t110 t112); refine go_in (wanted_at rfl rfl rfl tg rfl) ?_; intro K hk; clear haft hK tg hLi; go_simp; exact hS.go hk rfl
                    apply LinAll.cons0
                    · intro g L a x hLi haft hS hK; have t108 := hK.new 10 5 _ 108 _ rfl rfl rfl (by kernel_rfl) (waits haft 10 (by kernel_rfl)); have t113 := hK.new 15 0 _ 113 _ rfl rfl rfl (by kernel_rfl) (waits haft 15 (by kernel_rfl)); have tg := hK.new 6 9 _ 104 _ rfl rfl rfl (by kernel_rfl) (waits haft 6 (by kernel_rfl)); (try dsimp only at t108 t113); refine go_in (wanted_at rfl rfl rfl tg rfl) ?_; intro K hk; clear haft hK tg hLi; go_simp; exact hS.go hk rfl
                    apply LinAll.cons0
                    · intro g L a x hLi haft hS hK; have t104 := hK.new 6 10 _ 104 _ rfl rfl rfl (by kernel_rfl) (waits haft 6 (by kernel_rfl)); have t114 := hK.new 16 0 _ 114 _ rfl rfl rfl (by kernel_rfl) (waits haft 16 (by kernel_rfl)); (try dsimp only at t104 t114); refine go_in (wanted_all rfl) ?_; intro K hk; clear haft hK hLi; go_simp; exact hS.go hk rfl
                    apply LinAll.cons0
                    · intro g L a x hLi haft hS hK; have t115 := hK.new 17 0 _ 115 _ rfl rfl rfl (by kernel_rfl) (waits haft 17 (by kernel_rfl)); (try dsimp only at t115); refine go_in (wanted_all rfl) ?_; intro K hk; clear haft hK hLi; go_simp; exact hS.go hk rfl
                    apply LinAll.cons0
                    · intro g L a x hLi haft hS hK; have t18 := (hK.old 18 (by kernel_rfl)).trans o18; have tg := hK.new 18 0 _ 116 _ rfl rfl rfl (by kernel_rfl) (waits haft 18 (by kernel_rfl)); (try dsimp only at t18); refine go_in (wanted_at rfl rfl rfl tg rfl) ?_; intro K hk; obtain ⟨c0, c1, c2⟩ := (hS.own _ (.tail _ (.tail _ (.tail _ (.tail _ (.tail _ (.tail _ (.tail _ (.head _))))))))).2.get3; clear haft hK tg hLi; go_simp; exact hS.go hk rfl
                    apply LinAll.cons0
                    · intro g L a x hLi haft hS hK; have t17 := (hK.old 17 (by kernel_rfl)).trans o17; have tg := hK.new 18 1 _ 116 _ rfl rfl rfl (by kernel_rfl) (waits haft 18 (by kernel_rfl)); (try dsimp only at t17); refine go_in (wanted_at rfl rfl rfl tg rfl) ?_; intro K hk; obtain ⟨c0, c1, c2⟩ := (hS.own _ (.tail _ (.tail _ (.tail _ (.tail _ (.tail _ (.tail _ (.head _)))))))).2.get3; clear haft hK tg hLi; go_simp; exact hS.go hk rfl
                    apply LinAll.cons0
                    · intro g L a x hLi haft hS hK; have t117 := hK.new 19 1 _ 117 _ rfl rfl rfl (by kernel_rfl) (waits haft 19 (by kernel_rfl)); have t118 := hK.new 20 0 _ 118 _ rfl rfl rfl (by kernel_rfl) (waits haft 20 (by kernel_rfl)); have tg := hK.new 18 2 _ 116 _ rfl rfl rfl (by kernel_rfl) (waits haft 18 (by kernel_rfl)); (try dsimp only at t117 t118); refine go_in (wanted_at rfl rfl rfl tg rfl) ?_; intro K hk; clear haft hK tg hLi; go_simp; exact hS.go hk rfl
                    apply LinAll.cons0
                    · intro g L a x hLi haft hS hK; have t119 := hK.new 21 0 _ 119 _ rfl rfl rfl (by kernel_rfl) (waits haft 21 (by kernel_rfl)); have tg := hK.new 18 3 _ 116 _ rfl rfl rfl (by kernel_rfl) (waits haft 18 (by kernel_rfl)); (try dsimp only at t119); refine go_in (wanted_at rfl rfl rfl tg rfl) ?_; intro K hk; clear haft hK tg hLi; go_simp; exact hS.go hk rfl
                    apply LinAll.cons0
                    · intro g L a x hLi haft hS hK; have t17 := (hK.old 17 (by kernel_rfl)).trans o17; have tg := hK.new 22 0 _ 120 _ rfl rfl rfl (by kernel_rfl) (waits haft 22 (by kernel_rfl)); (try dsimp only at t17); exact go_out (wanted_at rfl rfl rfl tg rfl) ⟨rfl, hS.same rfl⟩
                    apply LinAll.cons0
                    · intro g L a x hLi haft hS hK; have t12 := (hK.old 12 (by kernel_rfl)).trans o12; have tg := hK.new 22 1 _ 120 _ rfl rfl rfl (by kernel_rfl) (waits haft 22 (by kernel_rfl)); (try dsimp only at t12); exact go_out (wanted_at rfl rfl rfl tg rfl) ⟨rfl, hS.same rfl⟩
                    apply LinAll.cons0
                    · intro g L a x hLi haft hS hK; have t121 := hK.new 23 1 _ 121 _ rfl rfl rfl (by kernel_rfl) (waits haft 23 (by kernel_rfl)); have t122 := hK.new 24 0 _ 122 _ rfl rfl rfl (by kernel_rfl) (waits haft 24 (by kernel_rfl)); have tg := hK.new 22 2 _ 120 _ rfl rfl rfl (by kernel_rfl) (waits haft 22 (by kernel_rfl)); (try dsimp only at t121 t122); exact go_out (wanted_at rfl rfl rfl tg rfl) ⟨rfl, hS.same rfl⟩
                    apply LinAll.cons0
                    · intro g L a x hLi haft hS hK; have t18 := (hK.old 18 (by kernel_rfl)).trans o18; have tg := hK.new 22 3 _ 120 _ rfl rfl rfl (by kernel_rfl) (waits haft 22 (by kernel_rfl)); (try dsimp only at t18); exact go_out (wanted_at rfl rfl rfl tg rfl) ⟨rfl, hS.same rfl⟩
                    apply LinAll.cons0
                    · intro g L a x hLi haft hS hK; have t123 := hK.new 25 1 _ 123 _ rfl rfl rfl (by kernel_rfl) (waits haft 25 (by kernel_rfl)); have t124 := hK.new 26 0 _ 124 _ rfl rfl rfl (by kernel_rfl) (waits haft 26 (by kernel_rfl)); have tg := hK.new 22 4 _ 120 _ rfl rfl rfl (by kernel_rfl) (waits haft 22 (by kernel_rfl)); (try dsimp only at t123 t124); exact go_out (wanted_at rfl rfl rfl tg rfl) ⟨rfl, hS.same rfl⟩
                    apply LinAll.cons0
                    · intro g L a x hLi haft hS hK; have t120 := hK.new 22 5 _ 120 _ rfl rfl rfl (by kernel_rfl) (waits haft 22 (by kernel_rfl)); have t125 := hK.new 27 0 _ 125 _ rfl rfl rfl (by kernel_rfl) (waits haft 27 (by kernel_rfl)); have tg := hK.new 18 9 _ 116 _ rfl rfl rfl (by kernel_rfl) (waits haft 18 (by kernel_rfl)); (try dsimp only at t120 t125); refine go_in (wanted_at rfl rfl rfl tg rfl) ?_; intro K hk; clear haft hK tg hLi; go_simp; exact hS.go hk rfl
                    apply LinAll.cons0
                    · intro g L a x hLi haft hS hK; have t116 := hK.new 18 10 _ 116 _ rfl rfl rfl (by kernel_rfl) (waits haft 18 (by kernel_rfl)); have t126 := hK.new 28 0 _ 126 _ rfl rfl rfl (by kernel_rfl) (waits haft 28 (by kernel_rfl)); (try dsimp only at t116 t126); refine go_in (wanted_all rfl) ?_; intro K hk; clear haft hK hLi; go_simp; exact hS.go hk rfl
                    apply LinAll.cons0
                    · intro g L a x hLi haft hS hK; have t127 := hK.new 29 0 _ 127 _ rfl rfl rfl (by kernel_rfl) (waits haft 29 (by kernel_rfl)); (try dsimp only at t127); refine go_in (wanted_all rfl) ?_; intro K hk; clear haft hK hLi; go_simp; exact hS.go hk rfl
                    refine LinAll.nil fun g x hS => ?_
                    subst ha0
                    simp only [Act.put, List.setIfInBounds_toArray, List.set_cons_zero, List.set_cons_succ]
                    clear o11 o12 o13 o17 o18 o19
                    have KL := And.intro (hS.own _ (.head _)).2.get3 (And.intro (hS.own _ (.tail _ (.head _))).2.get3 (And.intro (hS.own _ (.tail _ (.tail _ (.head _)))).2.get3 (And.intro (hS.own _ (.tail _ (.tail _ (.tail _ (.head _))))).2.get3 (And.intro (hS.own _ (.tail _ (.tail _ (.tail _ (.tail _ (.head _)))))).2.get3 (And.intro (hS.own _ (.tail _ (.tail _ (.tail _ (.tail _ (.tail _ (.head _))))))).2.get3 (And.intro (hS.own _ (.tail _ (.tail _ (.tail _ (.tail _ (.tail _ (.tail _ (.head _)))))))).2.get3 (hS.own _ (.tail _ (.tail _ (.tail _ (.tail _ (.tail _ (.tail _ (.tail _ (.head _))))))))).2.get3))))))
                    have hBq := hS.below
                    have hBs := hBq.size
                    clear hS
                    go_wp2_with fail
                    go_ret
                    exact ⟨rfl, by go_grown⟩
                  · have e3 : eqB DM DT = false := eqB_no p3
                    have e3b : eqB SM DM = true := eqB_yes (Y3.out.resolve_left p3)
                    clear p3 Y3
                    refine wp_named fun a0 ha0 => ?_
                    have o11 := old_at ha0 (t := 11) rfl
                    have o12 := old_at ha0 (t := 12) rfl
                    have o13 := old_at ha0 (t := 13) rfl
                    have o17 := old_at ha0 (t := 17) rfl
                    have o18 := old_at ha0 (t := 18) rfl
                    have o19 := old_at ha0 (t := 19) rfl
                    refine wp_region_lin (S := SS w _ [(w3.heap.size, [.int .i64 W, .int .u64 (LO (n)), .int .u64 (HI (n))]), (w3.heap.size + 1, [.int .i64 W, .int .u64 (LO (m)), .int .u64 (HI (m))]), (w3.heap.size + 1 + 1, [.int .i64 W, .int .u64 (LO (Z)), .int .u64 (HI (Z))]), (b1, [.int .i64 W, .int .u64 (LO (DQ)), .int .u64 (HI (DQ))]), (b2, [.int .i64 W, .int .u64 (LO (DR)), .int .u64 (HI (DR))]), (b3, [.int .i64 W, .int .u64 (LO (DS)), .int .u64 (HI (DS))]), (b4, [.int .i64 W, .int .u64 (LO (DT)), .int .u64 (HI (DT))]), (w4.heap.size, [.int .i64 W, .int .u64 (LO (DM)), .int .u64 (HI (DM))])] []) [] (fun _ => 0) (by kernel_rfl) (by kernel_rfl) (by rw [← ha0]; kernel_rfl) (SS.start (by first | assumption | go_grown) ?_) ?_
                    · intro p hp; simp only [List.mem_cons, List.not_mem_nil, or_false] at hp; rcases hp with rfl | rfl | rfl | rfl | rfl | rfl | rfl | rfl; all_goals exact ⟨At.three (by simp [go_sem, KF1]) (by simp [go_sem, KF1]) (by simp [go_sem, KF1]), by simp⟩
                    apply LinAll.cons0
                    · intro g L a x hLi haft hS hK; have t18 := (hK.old 18 (by kernel_rfl)).trans o18; (try dsimp only at t18); refine go_in (wanted_all rfl) ?_; intro K hk; obtain ⟨c0, c1, c2⟩ := (hS.own _ (.tail _ (.tail _ (.tail _ (.tail _ (.tail _ (.tail _ (.tail _ (.head _))))))))).2.get3; clear haft hK hLi; go_simp; exact hS.go hk rfl
                    apply LinAll.cons0
                    · intro g L a x hLi haft hS hK; have t13 := (hK.old 13 (by kernel_rfl)).trans o13; (try dsimp only at t13); refine go_in (wanted_all rfl) ?_; intro K hk; obtain ⟨c0, c1, c2⟩ := (hS.own _ (.tail _ (.tail _ (.head _)))).2.get3; clear haft hK hLi; go_simp; exact hS.go hk rfl
                    apply LinAll.cons0
                    · intro g L a x hLi haft hS hK; have t98 := hK.new 0 1 _ 98 _ rfl rfl rfl (by kernel_rfl) (waits haft 0 (by kernel_rfl)); have t99 := hK.new 1 0 _ 99 _ rfl rfl rfl (by kernel_rfl) (waits haft 1 (by kernel_rfl)); (try dsimp only at t98 t99); refine go_in (wanted_all rfl) ?_; intro K hk; clear haft hK hLi; go_simp; exact hS.go hk rfl
                    apply LinAll.cons0
                    · intro g L a x hLi haft hS hK; have t100 := hK.new 2 0 _ 100 _ rfl rfl rfl (by kernel_rfl) (waits haft 2 (by kernel_rfl)); (try dsimp only at t100); refine go_in (wanted_all rfl) ?_; intro K hk; clear haft hK hLi; go_simp; exact hS.go hk rfl
                    apply LinAll.cons0
                    · intro g L a x hLi haft hS hK; have t19 := (hK.old 19 (by kernel_rfl)).trans o19; have tg := hK.new 3 0 _ 101 _ rfl rfl rfl (by kernel_rfl) (waits haft 3 (by kernel_rfl)); (try dsimp only at t19); refine go_in (wanted_at rfl rfl rfl tg rfl) ?_; intro K hk; clear haft hK tg hLi; go_simp; exact hS.go hk rfl
                    apply LinAll.cons0
                    · intro g L a x hLi haft hS hK; have t101 := hK.new 3 1 _ 101 _ rfl rfl rfl (by kernel_rfl) (waits haft 3 (by kernel_rfl)); have t102 := hK.new 4 0 _ 102 _ rfl rfl rfl (by kernel_rfl) (waits haft 4 (by kernel_rfl)); (try dsimp only at t101 t102); refine go_in (wanted_all rfl) ?_; intro K hk; clear haft hK hLi; go_simp; exact hS.go hk rfl
                    apply LinAll.cons0
                    · intro g L a x hLi haft hS hK; have t103 := hK.new 5 0 _ 103 _ rfl rfl rfl (by kernel_rfl) (waits haft 5 (by kernel_rfl)); (try dsimp only at t103); refine go_in (wanted_all rfl) ?_; intro K hk; clear haft hK hLi; go_simp; exact hS.go hk rfl
                    apply LinAll.cons0
                    · intro g L a x hLi haft hS hK; have t17 := (hK.old 17 (by kernel_rfl)).trans o17; have tg := hK.new 6 0 _ 104 _ rfl rfl rfl (by kernel_rfl) (waits haft 6 (by kernel_rfl)); (try dsimp only at t17); refine go_in (wanted_at rfl rfl rfl tg rfl) ?_; intro K hk; obtain ⟨c0, c1, c2⟩ := (hS.own _ (.tail _ (.tail _ (.tail _ (.tail _ (.tail _ (.tail _ (.head _)))))))).2.get3; clear haft hK tg hLi; go_simp; exact hS.go hk rfl
                    apply LinAll.cons0
                    · intro g L a x hLi haft hS hK; have t13 := (hK.old 13 (by kernel_rfl)).trans o13; have tg := hK.new 6 1 _ 104 _ rfl rfl rfl (by kernel_rfl) (waits haft 6 (by kernel_rfl)); (try dsimp only at t13); refine go_in (wanted_at rfl rfl rfl tg rfl) ?_; intro K hk; obtain ⟨c0, c1, c2⟩ := (hS.own _ (.tail _ (.tail _ (.head _)))).2.get3; clear haft hK tg hLi; go_simp; exact hS.go hk rfl
                    apply LinAll.cons0
                    · intro g L a x hLi haft hS hK; have t105 := hK.new 7 1 _ 105 _ rfl rfl rfl (by kernel_rfl) (waits haft 7 (by kernel_rfl)); have t106 := hK.new 8 0 _ 106 _ rfl rfl rfl (by kernel_rfl) (waits haft 8 (by kernel_rfl)); have tg := hK.new 6 2 _ 104 _ rfl rfl rfl (by kernel_rfl) (waits haft 6 (by kernel_rfl)); (try dsimp only at t105 t106); refine go_in (wanted_at rfl rfl rfl tg rfl) ?_; intro K hk; clear haft hK tg hLi; go_simp; exact hS.go hk rfl
                    apply LinAll.cons0
                    · intro g L a x hLi haft hS hK; have t107 := hK.new 9 0 _ 107 _ rfl rfl rfl (by kernel_rfl) (waits haft 9 (by kernel_rfl)); have tg := hK.new 6 3 _ 104 _ rfl rfl rfl (by kernel_rfl) (waits haft 6 (by kernel_rfl)); (try dsimp only at t107); refine go_in (wanted_at rfl rfl rfl tg rfl) ?_; intro K hk; clear haft hK tg hLi; go_simp; exact hS.go hk rfl
                    apply LinAll.cons0
                    · intro g L a x hLi haft hS hK; have t17 := (hK.old 17 (by kernel_rfl)).trans o17; have tg := hK.new 10 0 _ 108 _ rfl rfl rfl (by kernel_rfl) (waits haft 10 (by kernel_rfl)); (try dsimp only at t17); refine go_in (wanted_at rfl rfl rfl tg rfl) ?_; intro K hk; obtain ⟨c0, c1, c2⟩ := (hS.own _ (.tail _ (.tail _ (.tail _ (.tail _ (.tail _ (.tail _ (.head _)))))))).2.get3; clear haft hK tg hLi; go_simp; exact hS.go hk rfl
                    apply LinAll.cons0
                    · intro g L a x hLi haft hS hK; have t109 := hK.new 11 0 _ 109 _ rfl rfl rfl (by kernel_rfl) (waits haft 11 (by kernel_rfl)); have tg := hK.new 10 1 _ 108 _ rfl rfl rfl (by kernel_rfl) (waits haft 10 (by kernel_rfl)); (try dsimp only at t109); refine go_in (wanted_at rfl rfl rfl tg rfl) ?_; intro K hk; clear haft hK tg hLi; go_simp; refine (MT.out _).mono ?_; rintro e y ⟨rfl, hb⟩; exact hS.on hk hb rfl
                    apply LinAll.cons0
                    · intro g L a x hLi haft hS hK; have t11 := (hK.old 11 (by kernel_rfl)).trans o11; have tg := hK.new 10 2 _ 108 _ rfl rfl rfl (by kernel_rfl) (waits haft 10 (by kernel_rfl)); (try dsimp only at t11); refine go_in (wanted_at rfl rfl rfl tg rfl) ?_; intro K hk; obtain ⟨c0, c1, c2⟩ := (hS.own _ (.head _)).2.get3; clear haft hK tg hLi; go_simp; exact hS.go hk rfl
                    apply LinAll.cons0
                    · intro g L a x hLi haft hS hK; have t111 := hK.new 13 0 _ 111 _ rfl rfl rfl (by kernel_rfl) (waits haft 13 (by kernel_rfl)); have tg := hK.new 10 3 _ 108 _ rfl rfl rfl (by kernel_rfl) (waits haft 10 (by kernel_rfl)); (try dsimp only at t111); refine go_in (wanted_at rfl rfl rfl tg rfl) ?_; intro K hk; clear haft hK tg hLi; go_simp; refine (MA.out _).mono ?_; rintro e y ⟨rfl, hb⟩; exact hS.on hk hb rfl
                    apply LinAll.cons0
                    · intro g L a x hLi haft hS hK; have t110 := hK.new 12 2 _ 110 _ rfl rfl rfl (by kernel_rfl) (waits haft 12 (by kernel_rfl)); have t112 := hK.new 14 0 _ 112 _ rfl rfl rfl (by kernel_rfl) (waits haft 14 (by kernel_rfl)); have tg := hK.new 10 4 _ 108 _ rfl rfl rfl (by kernel_rfl) (waits haft 10 (by kernel_rfl)); (try dsimp only at t110 t112); refine go_in (wanted_at rfl rfl rfl tg rfl) ?_; intro K hk; clear haft hK tg hLi; go_simp; exact hS.go hk rfl
                    apply LinAll.cons0
                    · intro g L a x hLi haft hS hK; have t108 := hK.new 10 5 _ 108 _ rfl rfl rfl (by kernel_rfl) (waits haft 10 (by kernel_rfl)); have t113 := hK.new 15 0 _ 113 _ rfl rfl rfl (by kernel_rfl) (waits haft 15 (by kernel_rfl)); have tg := hK.new 6 9 _ 104 _ rfl rfl rfl (by kernel_rfl) (waits haft 6 (by kernel_rfl)); (try dsimp only at t108 t113); refine go_in (wanted_at rfl rfl rfl tg rfl) ?_; intro K hk; clear haft hK tg hLi; go_simp; exact hS.go hk rfl
                    apply LinAll.cons0
                    · intro g L a x hLi haft hS hK; have t104 := hK.new 6 10 _ 104 _ rfl rfl rfl (by kernel_rfl) (waits haft 6 (by kernel_rfl)); have t114 := hK.new 16 0 _ 114 _ rfl rfl rfl (by kernel_rfl) (waits haft 16 (by kernel_rfl)); (try dsimp only at t104 t114); refine go_in (wanted_all rfl) ?_; intro K hk; clear haft hK hLi; go_simp; exact hS.go hk rfl
                    apply LinAll.cons0
                    · intro g L a x hLi haft hS hK; have t115 := hK.new 17 0 _ 115 _ rfl rfl rfl (by kernel_rfl) (waits haft 17 (by kernel_rfl)); (try dsimp only at t115); refine go_in (wanted_all rfl) ?_; intro K hk; clear haft hK hLi; go_simp; exact hS.go hk rfl
                    apply LinAll.cons0
                    · intro g L a x hLi haft hS hK; have t18 := (hK.old 18 (by kernel_rfl)).trans o18; have tg := hK.new 18 0 _ 116 _ rfl rfl rfl (by kernel_rfl) (waits haft 18 (by kernel_rfl)); (try dsimp only at t18); refine go_in (wanted_at rfl rfl rfl tg rfl) ?_; intro K hk; obtain ⟨c0, c1, c2⟩ := (hS.own _ (.tail _ (.tail _ (.tail _ (.tail _ (.tail _ (.tail _ (.tail _ (.head _))))))))).2.get3; clear haft hK tg hLi; go_simp; exact hS.go hk rfl
                    apply LinAll.cons0
                    · intro g L a x hLi haft hS hK; have t17 := (hK.old 17 (by kernel_rfl)).trans o17; have tg := hK.new 18 1 _ 116 _ rfl rfl rfl (by kernel_rfl) (waits haft 18 (by kernel_rfl)); (try dsimp only at t17); refine go_in (wanted_at rfl rfl rfl tg rfl) ?_; intro K hk; obtain ⟨c0, c1, c2⟩ := (hS.own _ (.tail _ (.tail _ (.tail _ (.tail _ (.tail _ (.tail _ (.head _)))))))).2.get3; clear haft hK tg hLi; go_simp; exact hS.go hk rfl
                    apply LinAll.cons0
                    · intro g L a x hLi haft hS hK; have t117 := hK.new 19 1 _ 117 _ rfl rfl rfl (by kernel_rfl) (waits haft 19 (by kernel_rfl)); have t118 := hK.new 20 0 _ 118 _ rfl rfl rfl (by kernel_rfl) (waits haft 20 (by kernel_rfl)); have tg := hK.new 18 2 _ 116 _ rfl rfl rfl (by kernel_rfl) (waits haft 18 (by kernel_rfl)); (try dsimp only at t117 t118); refine go_in (wanted_at rfl rfl rfl tg rfl) ?_; intro K hk; clear haft hK tg hLi; go_simp; exact hS.go hk rfl
                    apply LinAll.cons0
                    · intro g L a x hLi haft hS hK; have t119 := hK.new 21 0 _ 119 _ rfl rfl rfl (by kernel_rfl) (waits haft 21 (by kernel_rfl)); have tg := hK.new 18 3 _ 116 _ rfl rfl rfl (by kernel_rfl) (waits haft 18 (by kernel_rfl)); (try dsimp only at t119); refine go_in (wanted_at rfl rfl rfl tg rfl) ?_; intro K hk; clear haft hK tg hLi; go_simp; exact hS.go hk rfl
                    apply LinAll.cons0
                    · intro g L a x hLi haft hS hK; have t17 := (hK.old 17 (by kernel_rfl)).trans o17; have tg := hK.new 22 0 _ 120 _ rfl rfl rfl (by kernel_rfl) (waits haft 22 (by kernel_rfl)); (try dsimp only at t17); refine go_in (wanted_at rfl rfl rfl tg rfl) ?_; intro K hk; obtain ⟨c0, c1, c2⟩ := (hS.own _ (.tail _ (.tail _ (.tail _ (.tail _ (.tail _ (.tail _ (.head _)))))))).2.get3; clear haft hK tg hLi; go_simp; exact hS.go hk rfl
                    apply LinAll.cons0
                    · intro g L a x hLi haft hS hK; have t12 := (hK.old 12 (by kernel_rfl)).trans o12; have tg := hK.new 22 1 _ 120 _ rfl rfl rfl (by kernel_rfl) (waits haft 22 (by kernel_rfl)); (try dsimp only at t12); refine go_in (wanted_at rfl rfl rfl tg rfl) ?_; intro K hk; obtain ⟨c0, c1, c2⟩ := (hS.own _ (.tail _ (.head _))).2.get3; clear haft hK tg hLi; go_simp; exact hS.go hk rfl
                    apply LinAll.cons0
                    · intro g L a x hLi haft hS hK; have t121 := hK.new 23 1 _ 121 _ rfl rfl rfl (by kernel_rfl) (waits haft 23 (by kernel_rfl)); have t122 := hK.new 24 0 _ 122 _ rfl rfl rfl (by kernel_rfl) (waits haft 24 (by kernel_rfl)); have tg := hK.new 22 2 _ 120 _ rfl rfl rfl (by kernel_rfl) (waits haft 22 (by kernel_rfl)); (try dsimp only at t121 t122); refine go_in (wanted_at rfl rfl rfl tg rfl) ?_; intro K hk; clear haft hK tg hLi; go_simp; refine (HSM.out _).mono ?_; rintro e y ⟨rfl, hb⟩; exact hS.on hk hb rfl
                    apply LinAll.cons0
                    · intro g L a x hLi haft hS hK; have t18 := (hK.old 18 (by kernel_rfl)).trans o18; have tg := hK.new 22 3 _ 120 _ rfl rfl rfl (by kernel_rfl) (waits haft 22 (by kernel_rfl)); (try dsimp only at t18); refine go_in (wanted_at rfl rfl rfl tg rfl) ?_; intro K hk; obtain ⟨c0, c1, c2⟩ := (hS.own _ (.tail _ (.tail _ (.tail _ (.tail _ (.tail _ (.tail _ (.tail _ (.head _))))))))).2.get3; clear haft hK tg hLi; go_simp; exact hS.go hk rfl
                    apply LinAll.cons0
                    · intro g L a x hLi haft hS hK; have t123 := hK.new 25 1 _ 123 _ rfl rfl rfl (by kernel_rfl) (waits haft 25 (by kernel_rfl)); have t124 := hK.new 26 0 _ 124 _ rfl rfl rfl (by kernel_rfl) (waits haft 26 (by kernel_rfl)); have tg := hK.new 22 4 _ 120 _ rfl rfl rfl (by kernel_rfl) (waits haft 22 (by kernel_rfl)); (try dsimp only at t123 t124); refine go_in (wanted_at rfl rfl rfl tg rfl) ?_; intro K hk; clear haft hK tg hLi; go_simp; exact hS.go hk rfl
                    apply LinAll.cons0
                    · intro g L a x hLi haft hS hK; have t120 := hK.new 22 5 _ 120 _ rfl rfl rfl (by kernel_rfl) (waits haft 22 (by kernel_rfl)); have t125 := hK.new 27 0 _ 125 _ rfl rfl rfl (by kernel_rfl) (waits haft 27 (by kernel_rfl)); have tg := hK.new 18 9 _ 116 _ rfl rfl rfl (by kernel_rfl) (waits haft 18 (by kernel_rfl)); (try dsimp only at t120 t125); refine go_in (wanted_at rfl rfl rfl tg rfl) ?_; intro K hk; clear haft hK tg hLi; go_simp; exact hS.go hk rfl
                    apply LinAll.cons0
                    · intro g L a x hLi haft hS hK; have t116 := hK.new 18 10 _ 116 _ rfl rfl rfl (by kernel_rfl) (waits haft 18 (by kernel_rfl)); have t126 := hK.new 28 0 _ 126 _ rfl rfl rfl (by kernel_rfl) (waits haft 28 (by kernel_rfl)); (try dsimp only at t116 t126); refine go_in (wanted_all rfl) ?_; intro K hk; clear haft hK hLi; go_simp; exact hS.go hk rfl
                    apply LinAll.cons0
                    · intro g L a x hLi haft hS hK; have t127 := hK.new 29 0 _ 127 _ rfl rfl rfl (by kernel_rfl) (waits haft 29 (by kernel_rfl)); (try dsimp only at t127); refine go_in (wanted_all rfl) ?_; intro K hk; clear haft hK hLi; go_simp; exact hS.go hk rfl
                    refine LinAll.nil fun g x hS => ?_
                    subst ha0
                    simp only [Act.put, List.setIfInBounds_toArray, List.set_cons_zero, List.set_cons_succ]
                    clear o11 o12 o13 o17 o18 o19
                    have KL := And.intro (hS.own _ (.head _)).2.get3 (And.intro (hS.own _ (.tail _ (.head _))).2.get3 (And.intro (hS.own _ (.tail _ (.tail _ (.head _)))).2.get3 (And.intro (hS.own _ (.tail _ (.tail _ (.tail _ (.head _))))).2.get3 (And.intro (hS.own _ (.tail _ (.tail _ (.tail _ (.tail _ (.head _)))))).2.get3 (And.intro (hS.own _ (.tail _ (.tail _ (.tail _ (.tail _ (.tail _ (.head _))))))).2.get3 (And.intro (hS.own _ (.tail _ (.tail _ (.tail _ (.tail _ (.tail _ (.tail _ (.head _)))))))).2.get3 (hS.own _ (.tail _ (.tail _ (.tail _ (.tail _ (.tail _ (.tail _ (.tail _ (.head _))))))))).2.get3))))))
                    have hBq := hS.below
                    have hBs := hBq.size
                    clear hS
                    go_wp2_with fail
                    go_ret
                    exact ⟨rfl, by go_grown⟩
end Go.Proofs.Ytcfbabgffhfkdaa
