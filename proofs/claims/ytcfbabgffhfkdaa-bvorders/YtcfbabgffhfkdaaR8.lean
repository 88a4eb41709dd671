/- The walk of BvOrders. -/
import Derived.Deep.CutRange
import Derived.Test.YtcfbabgffhfkdaaJD
import Derived.Test.YtcfbabgffhfkdaaQ3
import Derived.Test.YtcfbabgffhfkdaaP1
import Derived.Test.YtcfbabgffhfkdaaO2
import Derived.Test.YtcfbabgffhfkdaaLin2
namespace Go.Proofs.Ytcfbabgffhfkdaa
open Go.RowKit
set_option linter.unusedSimpArgs false
set_option linter.unusedVariables false

set_option maxRecDepth 100000 in
set_option maxHeartbeats 8000000 in
theorem walk_orders (HK : ∀ wx, Calls Try.prog 9 #[] wx fun e w' => e = .returned (.bool true) ∧ Below wx.heap.size wx w') (a0 a1 a2 a3 a4 a5 a6 : Int) (w0 : (Lit.int .i64 a0).wf = true) (w1 : (Lit.int .u64 a1).wf = true) (w2 : (Lit.int .u64 a2).wf = true) (w3 : (Lit.int .u64 a3).wf = true) (w4 : (Lit.int .u64 a4).wf = true) (w5 : (Lit.int .u64 a5).wf = true) (w6 : (Lit.int .u64 a6).wf = true) (w : World) :
    Calls Try.prog 8 #[.int .i64 a0, .int .u64 a1, .int .u64 a2, .int .u64 a3, .int .u64 a4, .int .u64 a5, .int .u64 a6] w fun e w' => e = .returned (.bool true) ∧ Below w.heap.size w w' := by
  obtain ⟨h1, h2, hn, HA⟩ := word_of w0 w1 w2
  obtain ⟨-, -, hm, HB⟩ := word_of w0 w3 w4
  obtain ⟨-, -, hk, HC⟩ := word_of w0 w5 w6
  generalize wnum a0 a1 a2 = n at *
  generalize wnum a0 a3 a4 = m at *
  generalize wnum a0 a5 a6 = k at *
  generalize wdt a0 = W at *
  clear w0 w1 w2 w3 w4 w5 w6
  have h1W : 1 < 2 ^ W := Nat.one_lt_two_pow (by omega)
  obtain ⟨T, hT⟩ : ∃ x, x = 2 ^ (W - 1) := ⟨_, rfl⟩
  obtain ⟨V, hV⟩ : ∃ x, x = W - 1 := ⟨_, rfl⟩
  obtain ⟨TN, hTN⟩ : ∃ x, x = top W n := ⟨_, rfl⟩
  obtain ⟨TM, hTM⟩ : ∃ x, x = top W m := ⟨_, rfl⟩
  have lT : T < 2 ^ W := by rw [hT]; exact two_pow_pred h1
  have lTN : TN < 2 ^ W := by rw [hTN]; exact top_lt h1 hn
  have lTM : TM < 2 ^ W := by rw [hTM]; exact top_lt h1 hm
  have hVW : V ≤ W := by omega
  have hw1 : IntKind.i64.wrap ((W : Int) - 1) = (W : Int) - 1 := by rw [wrap_nat (m := W - 1) (by omega) (by omega)]; omega
  have HS1 : Hid (∀ wx, Calls Try.prog 37 #[.int .i64 W, .int .i64 ((W : Int) - 1)] wx fun e w' => e = .returned (.agg #[.int .i64 W, .int .u64 (LO (V)), .int .u64 (HI (V))]) ∧ Below wx.heap.size wx w') := fun wx => small_le h1 h2 rfl (by omega) hVW wx
  have HTT : Hid (∀ wx, Calls Try.prog 34 #[.int .i64 26, .agg #[.int .i64 W, .int .u64 1, .int .u64 0], .agg #[.int .i64 W, .int .u64 (LO (V)), .int .u64 (HI (V))]] wx fun e w' => e = .returned (.agg #[.int .i64 W, .int .u64 (LO (T)), .int .u64 (HI (T))]) ∧ Below wx.heap.size wx w') := fun wx => by
    have h := do_shle (k := 0) (op := 26) (n := 1) rfl (by decide) ⟨h1, h2, h1W, rfl, lo1, hi1⟩ (Wd.mk' h1 h2 (small_lt hVW)) hVW wx
    rw [show sh 0 W 1 V = T by rw [hT, hV]; exact top_mod h1] at h
    exact h
  have HXN : Hid (∀ wx, Calls Try.prog 34 #[.int .i64 14, .agg #[.int .i64 W, .int .u64 (LO (n)), .int .u64 (HI (n))], .agg #[.int .i64 W, .int .u64 (LO (T)), .int .u64 (HI (T))]] wx fun e w' => e = .returned (.agg #[.int .i64 W, .int .u64 (LO (TN)), .int .u64 (HI (TN))]) ∧ Below wx.heap.size wx w') := fun wx => by
    have h := do_xor (Wd.mk' h1 h2 hn) (Wd.mk' h1 h2 lT) wx
    rw [hT] at h
    rw [hTN, hT]
    exact h
  have HXM : Hid (∀ wx, Calls Try.prog 34 #[.int .i64 14, .agg #[.int .i64 W, .int .u64 (LO (m)), .int .u64 (HI (m))], .agg #[.int .i64 W, .int .u64 (LO (T)), .int .u64 (HI (T))]] wx fun e w' => e = .returned (.agg #[.int .i64 W, .int .u64 (LO (TM)), .int .u64 (HI (TM))]) ∧ Below wx.heap.size wx w') := fun wx => by
    have h := do_xor (Wd.mk' h1 h2 hm) (Wd.mk' h1 h2 lT) wx
    rw [hT] at h
    rw [hTM, hT]
    exact h
  have HCS : Hid (∀ (q : Nat) (hq : q < 4), ∃ c, (∀ wx, Calls Try.prog 34 #[.int .i64 (33 + (q : Int)), .agg #[.int .i64 W, .int .u64 (LO (n)), .int .u64 (HI (n))], .agg #[.int .i64 W, .int .u64 (LO (m)), .int .u64 (HI (m))]] wx fun e w' => e = .returned (.agg #[.int .i64 0, .int .u64 (LO (b01 c)), .int .u64 (HI (b01 c))]) ∧ Below wx.heap.size wx w') ∧ (∀ wx, Calls Try.prog 34 #[.int .i64 (29 + (q : Int)), .agg #[.int .i64 W, .int .u64 (LO (TN)), .int .u64 (HI (TN))], .agg #[.int .i64 W, .int .u64 (LO (TM)), .int .u64 (HI (TM))]] wx fun e w' => e = .returned (.agg #[.int .i64 0, .int .u64 (LO (b01 c)), .int .u64 (HI (b01 c))]) ∧ Below wx.heap.size wx w')) := fun q hq => by
    refine ⟨cmpv (4 + q) W n m, fun wx => do_cmp (by omega) (by omega) (Wd.mk' h1 h2 hn) (Wd.mk' h1 h2 hm) wx, fun wx => ?_⟩
    have h := do_cmp (k := q) (op := 29 + (q : Int)) rfl (by omega) (Wd.mk' h1 h2 lTN) (Wd.mk' h1 h2 lTM) wx
    rw [show cmpv q W TN TM = cmpv (4 + q) W n m by
      rw [hTN, hTM]
      have : q = 0 ∨ q = 1 ∨ q = 2 ∨ q = 3 := by omega
      rcases this with rfl | rfl | rfl | rfl <;> rfl] at h
    exact h
  have hqn := neq_w
  have hqe := eq_w
  have hbn := neq_b
  have hbe := eq_b
  have hfl := field_lo
  clear hT hTN hTM hV
  have HKH : Hid _ := HK
  clear HK
  go_enter Try.func8, Try.ntmps8
  go_wp2_with fail
  refine (HKH.out _).mono ?_
  rintro e w1 ⟨rfl, hb1⟩
  have hb1' := below_step (w := w) (by go_grown) hb1
  have hs1 := hb1'.size
  go_wp2_with fail
  refine (HA.out _).mono ?_
  rintro e w2 ⟨rfl, hb2⟩
  have hb2' := below_step (w := w) (by go_grown) hb2
  have hs2 := hb2'.size
  go_wp2_with fail
  refine (HB.out _).mono ?_
  rintro e w3 ⟨rfl, hb3⟩
  have hb3' := below_step (w := w) (by go_grown) hb3
  have hs3 := hb3'.size
  go_wp2_with fail
  refine (HC.out _).mono ?_
  rintro e w4 ⟨rfl, hb4⟩
  have hb4' := below_step (w := w) (by go_grown) hb4
  have hs4 := hb4'.size
  clear HKH HA HB HC
  go_wp2_with fail
  refine (bool_b true _).mono ?_
  rintro e w5 ⟨rfl, hb5⟩
  have hb5' := below_step (w := w) (by go_grown) hb5
  have hs5 := hb5'.size
  have KF5 : w5.cell? ⟨w4.heap.size, 0, none⟩ = some (.int .i64 W) ∧ w5.cell? ⟨w4.heap.size, 1, none⟩ = some (.int .u64 (LO (n))) ∧ w5.cell? ⟨w4.heap.size, 2, none⟩ = some (.int .u64 (HI (n))) ∧ w5.cell? ⟨w4.heap.size + 1, 0, none⟩ = some (.int .i64 W) ∧ w5.cell? ⟨w4.heap.size + 1, 1, none⟩ = some (.int .u64 (LO (m))) ∧ w5.cell? ⟨w4.heap.size + 1, 2, none⟩ = some (.int .u64 (HI (m))) ∧ w5.cell? ⟨w4.heap.size + 1 + 1, 0, none⟩ = some (.int .i64 W) ∧ w5.cell? ⟨w4.heap.size + 1 + 1, 1, none⟩ = some (.int .u64 (LO (k))) ∧ w5.cell? ⟨w4.heap.size + 1 + 1, 2, none⟩ = some (.int .u64 (HI (k))) := ⟨keep_cell hb5 (by first | (simp [go_sem]; done)), keep_cell hb5 (by first | (simp [go_sem]; done)), keep_cell hb5 (by first | (simp [go_sem]; done)), keep_cell hb5 (by first | (simp [go_sem]; done)), keep_cell hb5 (by first | (simp [go_sem]; done)), keep_cell hb5 (by first | (simp [go_sem]; done)), keep_cell hb5 (by first | (simp [go_sem]; done)), keep_cell hb5 (by first | (simp [go_sem]; done)), keep_cell hb5 (by first | (simp [go_sem]; done))⟩; have KF5z0 : w4.heap.size < w5.heap.size := World.block_lt_of_cell? _ _ KF5.1; have KF5z1 : w4.heap.size + 1 < w5.heap.size := World.block_lt_of_cell? _ _ KF5.2.2.2.1; have KF5z2 : w4.heap.size + 1 + 1 < w5.heap.size := World.block_lt_of_cell? _ _ KF5.2.2.2.2.2.2.1
  clear hb5
  go_upto_region 5 with fail
  go_cut [19] from 40 to 49 (fun v19 X => ∃ b5 : Nat, v19 = .pointer (some ⟨b5, 0, none⟩) ∧ (X.cell? ⟨w4.heap.size, 0, none⟩ = some (.int .i64 W) ∧ X.cell? ⟨w4.heap.size, 1, none⟩ = some (.int .u64 (LO (n))) ∧ X.cell? ⟨w4.heap.size, 2, none⟩ = some (.int .u64 (HI (n))) ∧ X.cell? ⟨w4.heap.size + 1, 0, none⟩ = some (.int .i64 W) ∧ X.cell? ⟨w4.heap.size + 1, 1, none⟩ = some (.int .u64 (LO (m))) ∧ X.cell? ⟨w4.heap.size + 1, 2, none⟩ = some (.int .u64 (HI (m))) ∧ X.cell? ⟨w4.heap.size + 1 + 1, 0, none⟩ = some (.int .i64 W) ∧ X.cell? ⟨w4.heap.size + 1 + 1, 1, none⟩ = some (.int .u64 (LO (k))) ∧ X.cell? ⟨w4.heap.size + 1 + 1, 2, none⟩ = some (.int .u64 (HI (k))) ∧ X.cell? ⟨w5.heap.size, 0, none⟩ = some (.int .i64 0) ∧ X.cell? ⟨w5.heap.size, 1, none⟩ = some (.int .u64 (LO (b01 true))) ∧ X.cell? ⟨w5.heap.size, 2, none⟩ = some (.int .u64 (HI (b01 true))) ∧ X.cell? ⟨b5, 0, none⟩ = some (.int .i64 W) ∧ X.cell? ⟨b5, 1, none⟩ = some (.int .u64 (LO (T))) ∧ X.cell? ⟨b5, 2, none⟩ = some (.int .u64 (HI (T)))) ∧ Below w.heap.size w X)
  case first =>
    refine wp_named fun a0 ha0 => ?_
    have o15 := old_at ha0 (t := 15) rfl
    refine wp_region_lin (S := SS w _ [(w4.heap.size, [.int .i64 W, .int .u64 (LO (n)), .int .u64 (HI (n))]), (w4.heap.size + 1, [.int .i64 W, .int .u64 (LO (m)), .int .u64 (HI (m))]), (w4.heap.size + 1 + 1, [.int .i64 W, .int .u64 (LO (k)), .int .u64 (HI (k))]), (w5.heap.size, [.int .i64 0, .int .u64 (LO (b01 true)), .int .u64 (HI (b01 true))])] [(10, 11, [.int .i64 W, .int .u64 (LO (T)), .int .u64 (HI (T))])]) [10] (fun _ => 0) (by kernel_rfl) (by kernel_rfl) (by rw [← ha0]; kernel_rfl) (SS.start (by first | assumption | go_grown) ?_) ?_
    · intro p hp; simp only [List.mem_cons, List.not_mem_nil, or_false] at hp; rcases hp with rfl | rfl | rfl | rfl; all_goals exact ⟨At.three (by simp [go_sem, KF5, KF5z0, KF5z1, KF5z2]) (by simp [go_sem, KF5, KF5z0, KF5z1, KF5z2]) (by simp [go_sem, KF5, KF5z0, KF5z1, KF5z2]), by simp⟩
    refine' LinAll.cons _ ?_ ?_ ?_
    rotate_left 1
    · intro g L a x hLi haft hS hK; have t15 := (hK.old 15 (by kernel_rfl)).trans o15; (try dsimp only at t15); refine go_in (wanted_all rfl) ?_; intro K hk; clear haft hK hLi; go_simp; exact hS.go hk rfl
    · intro i hi; simp only [List.mem_cons, List.not_mem_nil, or_false] at hi; rcases hi with rfl; (first | exact Or.inl (fun _ _ _ => rfl) | exact Or.inr (by kernel_rfl))
    refine' LinAll.cons _ ?_ ?_ ?_
    rotate_left 1
    · intro g L a x hLi haft hS hK; have t40 := hK.new 0 0 _ 40 _ rfl rfl rfl (by kernel_rfl) (waits haft 0 (by kernel_rfl)); (try dsimp only at t40); refine go_in (wanted_all rfl) ?_; intro K hk; obtain ⟨c0, c1, c2⟩ := (hS.own _ (.head _)).2.get3; clear haft hK hLi; go_simp; exact hS.go hk rfl
    · intro i hi; simp only [List.mem_cons, List.not_mem_nil, or_false] at hi; rcases hi with rfl; (first | exact Or.inl (fun _ _ _ => rfl) | exact Or.inr (by kernel_rfl))
    refine' LinAll.cons _ ?_ ?_ ?_
    rotate_left 1
    · intro g L a x hLi haft hS hK; have t41 := hK.new 1 0 _ 41 _ rfl rfl rfl (by kernel_rfl) (waits haft 1 (by kernel_rfl)); (try dsimp only at t41); refine go_in (wanted_all rfl) ?_; intro K hk; clear haft hK hLi; go_simp; exact hS.go hk rfl
    · intro i hi; simp only [List.mem_cons, List.not_mem_nil, or_false] at hi; rcases hi with rfl; (first | exact Or.inl (fun _ _ _ => rfl) | exact Or.inr (by kernel_rfl))
    refine' LinAll.cons _ ?_ ?_ ?_
    rotate_left 1
    · intro g L a x hLi haft hS hK; have t15 := (hK.old 15 (by kernel_rfl)).trans o15; (try dsimp only at t15); refine go_in (wanted_all rfl) ?_; intro K hk; clear haft hK hLi; go_simp; exact hS.go hk rfl
    · intro i hi; simp only [List.mem_cons, List.not_mem_nil, or_false] at hi; rcases hi with rfl; (first | exact Or.inl (fun _ _ _ => rfl) | exact Or.inr (by kernel_rfl))
    refine' LinAll.cons _ ?_ ?_ ?_
    rotate_left 1
    · intro g L a x hLi haft hS hK; have t43 := hK.new 3 0 _ 43 _ rfl rfl rfl (by kernel_rfl) (waits haft 3 (by kernel_rfl)); (try dsimp only at t43); refine go_in (wanted_all rfl) ?_; intro K hk; obtain ⟨c0, c1, c2⟩ := (hS.own _ (.head _)).2.get3; clear haft hK hLi; go_simp; exact hS.go hk rfl
    · intro i hi; simp only [List.mem_cons, List.not_mem_nil, or_false] at hi; rcases hi with rfl; (first | exact Or.inl (fun _ _ _ => rfl) | exact Or.inr (by kernel_rfl))
    refine' LinAll.cons _ ?_ ?_ ?_
    rotate_left 1
    · intro g L a x hLi haft hS hK; have t15 := (hK.old 15 (by kernel_rfl)).trans o15; (try dsimp only at t15); refine go_in (wanted_all rfl) ?_; intro K hk; clear haft hK hLi; go_simp; exact hS.go hk rfl
    · intro i hi; simp only [List.mem_cons, List.not_mem_nil, or_false] at hi; rcases hi with rfl; (first | exact Or.inl (fun _ _ _ => rfl) | exact Or.inr (by kernel_rfl))
    refine' LinAll.cons _ ?_ ?_ ?_
    rotate_left 1
    · intro g L a x hLi haft hS hK; have t45 := hK.new 5 0 _ 45 _ rfl rfl rfl (by kernel_rfl) (waits haft 5 (by kernel_rfl)); (try dsimp only at t45); refine go_in (wanted_all rfl) ?_; intro K hk; obtain ⟨c0, c1, c2⟩ := (hS.own _ (.head _)).2.get3; clear haft hK hLi; go_simp; exact hS.go hk rfl
    · intro i hi; simp only [List.mem_cons, List.not_mem_nil, or_false] at hi; rcases hi with rfl; (first | exact Or.inl (fun _ _ _ => rfl) | exact Or.inr (by kernel_rfl))
    refine' LinAll.cons _ ?_ ?_ ?_
    rotate_left 1
    · intro g L a x hLi haft hS hK; have t46 := hK.new 6 0 _ 46 _ rfl rfl rfl (by kernel_rfl) (waits haft 6 (by kernel_rfl)); (try dsimp only at t46); refine go_in (wanted_all rfl) ?_; intro K hk; clear haft hK hLi; go_simp; exact hS.go hk rfl
    · intro i hi; simp only [List.mem_cons, List.not_mem_nil, or_false] at hi; rcases hi with rfl; (first | exact Or.inl (fun _ _ _ => rfl) | exact Or.inr (by kernel_rfl))
    refine' LinAll.cons _ ?_ ?_ ?_
    rotate_left 1
    · intro g L a x hLi haft hS hK; have t44 := hK.new 4 3 _ 44 _ rfl rfl rfl (by kernel_rfl) (waits haft 4 (by kernel_rfl)); have t47 := hK.new 7 0 _ 47 _ rfl rfl rfl (by kernel_rfl) (waits haft 7 (by kernel_rfl)); (try dsimp only at t44 t47); refine go_in (wanted_all rfl) ?_; intro K hk; clear haft hK hLi; go_simp; refine (HS1.out _).mono ?_; rintro e y ⟨rfl, hb⟩; exact hS.on hk hb rfl
    · intro i hi; simp only [List.mem_cons, List.not_mem_nil, or_false] at hi; rcases hi with rfl; (first | exact Or.inl (fun _ _ _ => rfl) | exact Or.inr (by kernel_rfl))
    refine' LinAll.cons _ ?_ ?_ ?_
    rotate_left 1
    · intro g L a x hLi haft hS hK; have t42 := hK.new 2 6 _ 42 _ rfl rfl rfl (by kernel_rfl) (waits haft 2 (by kernel_rfl)); have t48 := hK.new 8 0 _ 48 _ rfl rfl rfl (by kernel_rfl) (waits haft 8 (by kernel_rfl)); (try dsimp only at t42 t48); refine go_in (wanted_all rfl) ?_; intro K hk; clear haft hK hLi; go_simp; refine (HTT.out _).mono ?_; rintro e y ⟨rfl, hb⟩; exact hS.on hk hb rfl
    · intro i hi; simp only [List.mem_cons, List.not_mem_nil, or_false] at hi; rcases hi with rfl; (first | exact Or.inl (fun _ _ _ => rfl) | exact Or.inr (by kernel_rfl))
    refine LinAll.cons (fun g => .pointer (some ⟨g 10, 0, none⟩)) ?_ ?_ ?_
    · intro g L a x hLi haft hS hK; refine go_in (wanted_all rfl) ?_; intro K hk; clear haft hK; go_simp; have hq := hk.out (updG g 10 x.heap.size) (x.alloc (.cells #[.int .i64 0, .int .u64 0, .int .u64 0] 24)) (updG_al (by rfl)) (hS.alloc hLi (by rfl)); dsimp only at hq; rw [updG_eq] at hq; exact hq
    · intro i hi; simp only [List.mem_cons, List.not_mem_nil, or_false] at hi; rcases hi with rfl; exact Or.inr (by kernel_rfl)
    refine LinAll.cons (fun _ => undef) ?_ ?_ ?_
    · intro g L a x hLi haft hS hK; have t19 := hK.new 10 0 _ 19 _ rfl rfl rfl (by kernel_rfl) (waits haft 10 (by kernel_rfl)); have t49 := hK.new 9 1 _ 49 _ rfl rfl rfl (by kernel_rfl) (waits haft 9 (by kernel_rfl)); (try dsimp only at t19 t49); refine go_in (wanted_all rfl) ?_; intro K hk; have hL10 := waits haft 10 (by kernel_rfl); obtain ⟨m1, m2, m3, m4⟩ := hS.made _ (.head _) hL10; dsimp only [List.length_cons, List.length_nil] at m3 m4; obtain ⟨u0, c0⟩ := Option.isSome_iff_exists.1 (m4 0 (by decide)); obtain ⟨u1, c1⟩ := Option.isSome_iff_exists.1 (m4 1 (by decide)); obtain ⟨u2, c2⟩ := Option.isSome_iff_exists.1 (m4 2 (by decide)); clear m1 m2 m4; clear haft hK hLi; go_simp; refine hk.out g _ (fun _ _ => rfl) (hS.store hL10 (.head _) rfl ?_); intro q hq e; simp only [List.mem_cons, List.not_mem_nil, or_false] at hq; rcases hq with rfl <;> first | rfl | exact absurd e (by simp)
    · intro i hi; simp only [List.mem_cons, List.not_mem_nil, or_false] at hi; rcases hi with rfl; (first | exact Or.inl (fun _ _ _ => rfl) | exact Or.inr (by kernel_rfl))
    refine LinAll.nil fun g x hS => ?_
    subst ha0
    simp only [Act.put, List.setIfInBounds_toArray, List.set_cons_zero, List.set_cons_succ]
    clear o15
    have KL := And.intro (hS.own _ (.head _)).2.get3 (And.intro (hS.own _ (.tail _ (.head _))).2.get3 (And.intro (hS.own _ (.tail _ (.tail _ (.head _)))).2.get3 (And.intro (hS.own _ (.tail _ (.tail _ (.tail _ (.head _))))).2.get3 (hS.laid _ (.head _) rfl).2.get3)))
    have hBq := hS.below
    have hBs := hBq.size
    clear hS
    go_wp2_with fail
    go_meet
    case rel =>
      refine ⟨_, rfl, ⟨?_, ?_, ?_, ?_, ?_, ?_, ?_, ?_, ?_, ?_, ?_, ?_, ?_, ?_, ?_⟩, hBq⟩
      all_goals simp [KL]
  case rest =>
    clear KF5 KF5z0 KF5z1 KF5z2 hs1 hs2 hs3 hs4 hs5 hb1' hb2' hb3' hb4' hb5'
    obtain ⟨b5, rfl, KF1, hbl1⟩ := hcut
    have hbs1 := hbl1.size
    go_upto_region 6 with fail
    go_cut [20, 21] from 50 to 55 (fun v20 v21 X => ∃ b6 b7 : Nat, v20 = .pointer (some ⟨b6, 0, none⟩) ∧ v21 = .pointer (some ⟨b7, 0, none⟩) ∧ (X.cell? ⟨w4.heap.size, 0, none⟩ = some (.int .i64 W) ∧ X.cell? ⟨w4.heap.size, 1, none⟩ = some (.int .u64 (LO (n))) ∧ X.cell? ⟨w4.heap.size, 2, none⟩ = some (.int .u64 (HI (n))) ∧ X.cell? ⟨w4.heap.size + 1, 0, none⟩ = some (.int .i64 W) ∧ X.cell? ⟨w4.heap.size + 1, 1, none⟩ = some (.int .u64 (LO (m))) ∧ X.cell? ⟨w4.heap.size + 1, 2, none⟩ = some (.int .u64 (HI (m))) ∧ X.cell? ⟨w4.heap.size + 1 + 1, 0, none⟩ = some (.int .i64 W) ∧ X.cell? ⟨w4.heap.size + 1 + 1, 1, none⟩ = some (.int .u64 (LO (k))) ∧ X.cell? ⟨w4.heap.size + 1 + 1, 2, none⟩ = some (.int .u64 (HI (k))) ∧ X.cell? ⟨w5.heap.size, 0, none⟩ = some (.int .i64 0) ∧ X.cell? ⟨w5.heap.size, 1, none⟩ = some (.int .u64 (LO (b01 true))) ∧ X.cell? ⟨w5.heap.size, 2, none⟩ = some (.int .u64 (HI (b01 true))) ∧ X.cell? ⟨b6, 0, none⟩ = some (.int .i64 W) ∧ X.cell? ⟨b6, 1, none⟩ = some (.int .u64 (LO (TN))) ∧ X.cell? ⟨b6, 2, none⟩ = some (.int .u64 (HI (TN))) ∧ X.cell? ⟨b7, 0, none⟩ = some (.int .i64 W) ∧ X.cell? ⟨b7, 1, none⟩ = some (.int .u64 (LO (TM))) ∧ X.cell? ⟨b7, 2, none⟩ = some (.int .u64 (HI (TM)))) ∧ Below w.heap.size w X)
    case first =>
      refine wp_named fun a0 ha0 => ?_
      have o15 := old_at ha0 (t := 15) rfl
      have o16 := old_at ha0 (t := 16) rfl
      have o19 := old_at ha0 (t := 19) rfl
      refine wp_region_lin (S := SS w wc.heap.size [(w4.heap.size, [.int .i64 W, .int .u64 (LO (n)), .int .u64 (HI (n))]), (w4.heap.size + 1, [.int .i64 W, .int .u64 (LO (m)), .int .u64 (HI (m))]), (w4.heap.size + 1 + 1, [.int .i64 W, .int .u64 (LO (k)), .int .u64 (HI (k))]), (w5.heap.size, [.int .i64 0, .int .u64 (LO (b01 true)), .int .u64 (HI (b01 true))]), (b5, [.int .i64 W, .int .u64 (LO (T)), .int .u64 (HI (T))])] [(6, 8, [.int .i64 W, .int .u64 (LO (TN)), .int .u64 (HI (TN))]), (7, 9, [.int .i64 W, .int .u64 (LO (TM)), .int .u64 (HI (TM))])]) [6, 7] (fun _ => 0) (by kernel_rfl) (by kernel_rfl) (by rw [← ha0]; kernel_rfl) (SS.start (by first | assumption | go_grown) ?_) ?_
      · intro p hp; simp only [List.mem_cons, List.not_mem_nil, or_false] at hp; rcases hp with rfl | rfl | rfl | rfl | rfl; all_goals exact ⟨At.three (by simp [KF1]) (by simp [KF1]) (by simp [KF1]), by simp⟩
      refine' LinAll.cons _ ?_ ?_ ?_
      rotate_left 1
      · intro g L a x hLi haft hS hK; have t15 := (hK.old 15 (by kernel_rfl)).trans o15; (try dsimp only at t15); refine go_in (wanted_all rfl) ?_; intro K hk; obtain ⟨c0, c1, c2⟩ := (hS.own _ (.head _)).2.get3; clear haft hK hLi; go_simp; exact hS.go hk rfl
      · intro i hi; simp only [List.mem_cons, List.not_mem_nil, or_false] at hi; rcases hi with rfl | rfl; (first | exact Or.inl (fun _ _ _ => rfl) | exact Or.inr (by kernel_rfl)); (first | exact Or.inl (fun _ _ _ => rfl) | exact Or.inr (by kernel_rfl))
      refine' LinAll.cons _ ?_ ?_ ?_
      rotate_left 1
      · intro g L a x hLi haft hS hK; have t19 := (hK.old 19 (by kernel_rfl)).trans o19; (try dsimp only at t19); refine go_in (wanted_all rfl) ?_; intro K hk; obtain ⟨c0, c1, c2⟩ := (hS.own _ (.tail _ (.tail _ (.tail _ (.tail _ (.head _)))))).2.get3; clear haft hK hLi; go_simp; exact hS.go hk rfl
      · intro i hi; simp only [List.mem_cons, List.not_mem_nil, or_false] at hi; rcases hi with rfl | rfl; (first | exact Or.inl (fun _ _ _ => rfl) | exact Or.inr (by kernel_rfl)); (first | exact Or.inl (fun _ _ _ => rfl) | exact Or.inr (by kernel_rfl))
      refine' LinAll.cons _ ?_ ?_ ?_
      rotate_left 1
      · intro g L a x hLi haft hS hK; have t50 := hK.new 0 1 _ 50 _ rfl rfl rfl (by kernel_rfl) (waits haft 0 (by kernel_rfl)); have t51 := hK.new 1 0 _ 51 _ rfl rfl rfl (by kernel_rfl) (waits haft 1 (by kernel_rfl)); (try dsimp only at t50 t51); refine go_in (wanted_all rfl) ?_; intro K hk; clear haft hK hLi; go_simp; refine (HXN.out _).mono ?_; rintro e y ⟨rfl, hb⟩; exact hS.on hk hb rfl
      · intro i hi; simp only [List.mem_cons, List.not_mem_nil, or_false] at hi; rcases hi with rfl | rfl; (first | exact Or.inl (fun _ _ _ => rfl) | exact Or.inr (by kernel_rfl)); (first | exact Or.inl (fun _ _ _ => rfl) | exact Or.inr (by kernel_rfl))
      refine' LinAll.cons _ ?_ ?_ ?_
      rotate_left 1
      · intro g L a x hLi haft hS hK; have t16 := (hK.old 16 (by kernel_rfl)).trans o16; (try dsimp only at t16); refine go_in (wanted_all rfl) ?_; intro K hk; obtain ⟨c0, c1, c2⟩ := (hS.own _ (.tail _ (.head _))).2.get3; clear haft hK hLi; go_simp; exact hS.go hk rfl
      · intro i hi; simp only [List.mem_cons, List.not_mem_nil, or_false] at hi; rcases hi with rfl | rfl; (first | exact Or.inl (fun _ _ _ => rfl) | exact Or.inr (by kernel_rfl)); (first | exact Or.inl (fun _ _ _ => rfl) | exact Or.inr (by kernel_rfl))
      refine' LinAll.cons _ ?_ ?_ ?_
      rotate_left 1
      · intro g L a x hLi haft hS hK; have t19 := (hK.old 19 (by kernel_rfl)).trans o19; (try dsimp only at t19); refine go_in (wanted_all rfl) ?_; intro K hk; obtain ⟨c0, c1, c2⟩ := (hS.own _ (.tail _ (.tail _ (.tail _ (.tail _ (.head _)))))).2.get3; clear haft hK hLi; go_simp; exact hS.go hk rfl
      · intro i hi; simp only [List.mem_cons, List.not_mem_nil, or_false] at hi; rcases hi with rfl | rfl; (first | exact Or.inl (fun _ _ _ => rfl) | exact Or.inr (by kernel_rfl)); (first | exact Or.inl (fun _ _ _ => rfl) | exact Or.inr (by kernel_rfl))
      refine' LinAll.cons _ ?_ ?_ ?_
      rotate_left 1
      · intro g L a x hLi haft hS hK; have t53 := hK.new 3 1 _ 53 _ rfl rfl rfl (by kernel_rfl) (waits haft 3 (by kernel_rfl)); have t54 := hK.new 4 0 _ 54 _ rfl rfl rfl (by kernel_rfl) (waits haft 4 (by kernel_rfl)); (try dsimp only at t53 t54); refine go_in (wanted_all rfl) ?_; intro K hk; clear haft hK hLi; go_simp; refine (HXM.out _).mono ?_; rintro e y ⟨rfl, hb⟩; exact hS.on hk hb rfl
      · intro i hi; simp only [List.mem_cons, List.not_mem_nil, or_false] at hi; rcases hi with rfl | rfl; (first | exact Or.inl (fun _ _ _ => rfl) | exact Or.inr (by kernel_rfl)); (first | exact Or.inl (fun _ _ _ => rfl) | exact Or.inr (by kernel_rfl))
      refine LinAll.cons (fun g => .pointer (some ⟨g 6, 0, none⟩)) ?_ ?_ ?_
      · intro g L a x hLi haft hS hK; refine go_in (wanted_all rfl) ?_; intro K hk; clear haft hK; go_simp; have hq := hk.out (updG g 6 x.heap.size) (x.alloc (.cells #[.int .i64 0, .int .u64 0, .int .u64 0] 24)) (updG_al (by rfl)) (hS.alloc hLi (by rfl)); dsimp only at hq; rw [updG_eq] at hq; exact hq
      · intro i hi; simp only [List.mem_cons, List.not_mem_nil, or_false] at hi; rcases hi with rfl | rfl; exact Or.inr (by kernel_rfl); exact Or.inl (fun g g' h => by simp only [h 6 (by decide)])
      refine LinAll.cons (fun g => .pointer (some ⟨g 7, 0, none⟩)) ?_ ?_ ?_
      · intro g L a x hLi haft hS hK; refine go_in (wanted_all rfl) ?_; intro K hk; clear haft hK; go_simp; have hq := hk.out (updG g 7 x.heap.size) (x.alloc (.cells #[.int .i64 0, .int .u64 0, .int .u64 0] 24)) (updG_al (by rfl)) (hS.alloc hLi (by rfl)); dsimp only at hq; rw [updG_eq] at hq; exact hq
      · intro i hi; simp only [List.mem_cons, List.not_mem_nil, or_false] at hi; rcases hi with rfl | rfl; exact Or.inl (fun g g' h => by simp only [h 7 (by decide)]); exact Or.inr (by kernel_rfl)
      refine LinAll.cons (fun _ => undef) ?_ ?_ ?_
      · intro g L a x hLi haft hS hK; have t20 := hK.new 6 1 _ 20 _ rfl rfl rfl (by kernel_rfl) (waits haft 6 (by kernel_rfl)); have t52 := hK.new 2 5 _ 52 _ rfl rfl rfl (by kernel_rfl) (waits haft 2 (by kernel_rfl)); (try dsimp only at t20 t52); refine go_in (wanted_all rfl) ?_; intro K hk; have hL6 := waits haft 6 (by kernel_rfl); obtain ⟨m1, m2, m3, m4⟩ := hS.made _ (.head _) hL6; dsimp only [List.length_cons, List.length_nil] at m3 m4; obtain ⟨u0, c0⟩ := Option.isSome_iff_exists.1 (m4 0 (by decide)); obtain ⟨u1, c1⟩ := Option.isSome_iff_exists.1 (m4 1 (by decide)); obtain ⟨u2, c2⟩ := Option.isSome_iff_exists.1 (m4 2 (by decide)); clear m1 m2 m4; clear haft hK hLi; go_simp; refine hk.out g _ (fun _ _ => rfl) (hS.store hL6 (.head _) rfl ?_); intro q hq e; simp only [List.mem_cons, List.not_mem_nil, or_false] at hq; rcases hq with rfl | rfl <;> first | rfl | exact absurd e (by simp)
      · intro i hi; simp only [List.mem_cons, List.not_mem_nil, or_false] at hi; rcases hi with rfl | rfl; (first | exact Or.inl (fun _ _ _ => rfl) | exact Or.inr (by kernel_rfl)); (first | exact Or.inl (fun _ _ _ => rfl) | exact Or.inr (by kernel_rfl))
      refine LinAll.cons (fun _ => undef) ?_ ?_ ?_
      · intro g L a x hLi haft hS hK; have t21 := hK.new 7 1 _ 21 _ rfl rfl rfl (by kernel_rfl) (waits haft 7 (by kernel_rfl)); have t55 := hK.new 5 3 _ 55 _ rfl rfl rfl (by kernel_rfl) (waits haft 5 (by kernel_rfl)); (try dsimp only at t21 t55); refine go_in (wanted_all rfl) ?_; intro K hk; have hL7 := waits haft 7 (by kernel_rfl); obtain ⟨m1, m2, m3, m4⟩ := hS.made _ (.tail _ (.head _)) hL7; dsimp only [List.length_cons, List.length_nil] at m3 m4; obtain ⟨u0, c0⟩ := Option.isSome_iff_exists.1 (m4 0 (by decide)); obtain ⟨u1, c1⟩ := Option.isSome_iff_exists.1 (m4 1 (by decide)); obtain ⟨u2, c2⟩ := Option.isSome_iff_exists.1 (m4 2 (by decide)); clear m1 m2 m4; clear haft hK hLi; go_simp; refine hk.out g _ (fun _ _ => rfl) (hS.store hL7 (.tail _ (.head _)) rfl ?_); intro q hq e; simp only [List.mem_cons, List.not_mem_nil, or_false] at hq; rcases hq with rfl | rfl <;> first | rfl | exact absurd e (by simp)
      · intro i hi; simp only [List.mem_cons, List.not_mem_nil, or_false] at hi; rcases hi with rfl | rfl; (first | exact Or.inl (fun _ _ _ => rfl) | exact Or.inr (by kernel_rfl)); (first | exact Or.inl (fun _ _ _ => rfl) | exact Or.inr (by kernel_rfl))
      refine LinAll.nil fun g x hS => ?_
      subst ha0
      simp only [Act.put, List.setIfInBounds_toArray, List.set_cons_zero, List.set_cons_succ]
      clear o15 o16 o19
      have KL := And.intro (hS.own _ (.head _)).2.get3 (And.intro (hS.own _ (.tail _ (.head _))).2.get3 (And.intro (hS.own _ (.tail _ (.tail _ (.head _)))).2.get3 (And.intro (hS.own _ (.tail _ (.tail _ (.tail _ (.head _))))).2.get3 (And.intro (hS.own _ (.tail _ (.tail _ (.tail _ (.tail _ (.head _)))))).2.get3 (And.intro (hS.laid _ (.head _) rfl).2.get3 (hS.laid _ (.tail _ (.head _)) rfl).2.get3)))))
      have hBq := hS.below
      have hBs := hBq.size
      clear hS
      go_wp2_with fail
      go_meet
      case rel =>
        refine ⟨_, _, rfl, rfl, ⟨?_, ?_, ?_, ?_, ?_, ?_, ?_, ?_, ?_, ?_, ?_, ?_, ?_, ?_, ?_, ?_, ?_, ?_⟩, hBq⟩
        all_goals simp [KL]
    case rest =>
      clear KF1 hbl1 hbs1
      obtain ⟨b6, b7, rfl, rfl, KF1, hbl1⟩ := hcut
      have hbs1 := hbl1.size
      clear HS1 HTT HXN HXM
      go_wp2_with fail
      go_loopw [22] (fun i wr => ∃ q : Nat, q ≤ 4 ∧ i = .int .i64 (q : Int) ∧ (wr.cell? ⟨w4.heap.size, 0, none⟩ = some (.int .i64 W) ∧ wr.cell? ⟨w4.heap.size, 1, none⟩ = some (.int .u64 (LO (n))) ∧ wr.cell? ⟨w4.heap.size, 2, none⟩ = some (.int .u64 (HI (n))) ∧ wr.cell? ⟨w4.heap.size + 1, 0, none⟩ = some (.int .i64 W) ∧ wr.cell? ⟨w4.heap.size + 1, 1, none⟩ = some (.int .u64 (LO (m))) ∧ wr.cell? ⟨w4.heap.size + 1, 2, none⟩ = some (.int .u64 (HI (m))) ∧ wr.cell? ⟨w4.heap.size + 1 + 1, 0, none⟩ = some (.int .i64 W) ∧ wr.cell? ⟨w4.heap.size + 1 + 1, 1, none⟩ = some (.int .u64 (LO (k))) ∧ wr.cell? ⟨w4.heap.size + 1 + 1, 2, none⟩ = some (.int .u64 (HI (k))) ∧ wr.cell? ⟨w5.heap.size, 0, none⟩ = some (.int .i64 0) ∧ wr.cell? ⟨w5.heap.size, 1, none⟩ = some (.int .u64 (LO (b01 true))) ∧ wr.cell? ⟨w5.heap.size, 2, none⟩ = some (.int .u64 (HI (b01 true))) ∧ wr.cell? ⟨b6, 0, none⟩ = some (.int .i64 W) ∧ wr.cell? ⟨b6, 1, none⟩ = some (.int .u64 (LO (TN))) ∧ wr.cell? ⟨b6, 2, none⟩ = some (.int .u64 (HI (TN))) ∧ wr.cell? ⟨b7, 0, none⟩ = some (.int .i64 W) ∧ wr.cell? ⟨b7, 1, none⟩ = some (.int .u64 (LO (TM))) ∧ wr.cell? ⟨b7, 2, none⟩ = some (.int .u64 (HI (TM)))) ∧ Below w.heap.size w wr) (fun i _ => 4 - (intOf i).toNat)
      case atStart =>
        refine ⟨0, by omega, rfl, ⟨?_, ?_, ?_, ?_, ?_, ?_, ?_, ?_, ?_, ?_, ?_, ?_, ?_, ?_, ?_, ?_, ?_, ?_⟩, ?_⟩
        all_goals first | (simp [go_sem, KF1]; done) | go_grown
      case round =>
        clear KF1 hbl1 hbs1
        obtain ⟨q, hq, rfl, KF1, hbl1⟩ := hrel
        have hbs1 := hbl1.size
        by_cases hq4 : q < 4
        · obtain ⟨c, hc1, hc2⟩ := HCS.out q hq4
          have HC1 : Hid _ := hc1
          have HC2 : Hid _ := hc2
          clear hc1 hc2 HCS
          have hw2 : IntKind.i64.wrap (33 + (q : Int)) = 33 + (q : Int) := by rw [show (33 : Int) + q = ((33 + q : Nat) : Int) by omega, wrap_nat (m := 33 + q) rfl (by omega)]
          have hw3 : IntKind.i64.wrap (29 + (q : Int)) = 29 + (q : Int) := by rw [show (29 : Int) + q = ((29 + q : Nat) : Int) by omega, wrap_nat (m := 29 + q) rfl (by omega)]
          go_wp2_with fail
          refine wp_named fun a0 ha0 => ?_
          have o15 := old_at ha0 (t := 15) rfl
          have o16 := old_at ha0 (t := 16) rfl
          have o20 := old_at ha0 (t := 20) rfl
          have o21 := old_at ha0 (t := 21) rfl
          have o22 := old_at ha0 (t := 22) rfl
          refine wp_region_lin (S := SS w wr.heap.size [(w4.heap.size, [.int .i64 W, .int .u64 (LO (n)), .int .u64 (HI (n))]), (w4.heap.size + 1, [.int .i64 W, .int .u64 (LO (m)), .int .u64 (HI (m))]), (w4.heap.size + 1 + 1, [.int .i64 W, .int .u64 (LO (k)), .int .u64 (HI (k))]), (w5.heap.size, [.int .i64 0, .int .u64 (LO (b01 true)), .int .u64 (HI (b01 true))]), (b6, [.int .i64 W, .int .u64 (LO (TN)), .int .u64 (HI (TN))]), (b7, [.int .i64 W, .int .u64 (LO (TM)), .int .u64 (HI (TM))])] []) [] (fun _ => 0) (by kernel_rfl) (by kernel_rfl) (by rw [← ha0]; kernel_rfl) (SS.start (by first | assumption | go_grown) ?_) ?_
          · intro p hp; simp only [List.mem_cons, List.not_mem_nil, or_false] at hp; rcases hp with rfl | rfl | rfl | rfl | rfl | rfl; all_goals exact ⟨At.three (by simp [KF1]) (by simp [KF1]) (by simp [KF1]), by simp⟩
          apply LinAll.cons0
          · intro g L a x hLi haft hS hK; have t22 := (hK.old 22 (by kernel_rfl)).trans o22; (try dsimp only at t22); refine go_in (wanted_all rfl) ?_; intro K hk; clear haft hK hLi; go_simp; exact hS.go hk rfl
          apply LinAll.cons0
          · intro g L a x hLi haft hS hK; have t60 := hK.new 0 0 _ 60 _ rfl rfl rfl (by kernel_rfl) (waits haft 0 (by kernel_rfl)); (try dsimp only at t60); refine go_in (wanted_all rfl) ?_; intro K hk; clear haft hK hLi; go_simp; exact hS.go hk rfl
          apply LinAll.cons0
          · intro g L a x hLi haft hS hK; have t15 := (hK.old 15 (by kernel_rfl)).trans o15; (try dsimp only at t15); refine go_in (wanted_all rfl) ?_; intro K hk; obtain ⟨c0, c1, c2⟩ := (hS.own _ (.head _)).2.get3; clear haft hK hLi; go_simp; exact hS.go hk rfl
          apply LinAll.cons0
          · intro g L a x hLi haft hS hK; have t16 := (hK.old 16 (by kernel_rfl)).trans o16; (try dsimp only at t16); refine go_in (wanted_all rfl) ?_; intro K hk; obtain ⟨c0, c1, c2⟩ := (hS.own _ (.tail _ (.head _))).2.get3; clear haft hK hLi; go_simp; exact hS.go hk rfl
          apply LinAll.cons0
          · intro g L a x hLi haft hS hK; have t61 := hK.new 1 2 _ 61 _ rfl rfl rfl (by kernel_rfl) (waits haft 1 (by kernel_rfl)); have t62 := hK.new 2 1 _ 62 _ rfl rfl rfl (by kernel_rfl) (waits haft 2 (by kernel_rfl)); have t63 := hK.new 3 0 _ 63 _ rfl rfl rfl (by kernel_rfl) (waits haft 3 (by kernel_rfl)); (try dsimp only at t61 t62 t63); refine go_in (wanted_all rfl) ?_; intro K hk; clear haft hK hLi; go_simp; refine (HC1.out _).mono ?_; rintro e y ⟨rfl, hb⟩; exact hS.on hk hb rfl
          apply LinAll.cons0
          · intro g L a x hLi haft hS hK; have t22 := (hK.old 22 (by kernel_rfl)).trans o22; (try dsimp only at t22); refine go_in (wanted_all rfl) ?_; intro K hk; clear haft hK hLi; go_simp; exact hS.go hk rfl
          apply LinAll.cons0
          · intro g L a x hLi haft hS hK; have t65 := hK.new 5 0 _ 65 _ rfl rfl rfl (by kernel_rfl) (waits haft 5 (by kernel_rfl)); (try dsimp only at t65); refine go_in (wanted_all rfl) ?_; intro K hk; clear haft hK hLi; go_simp; exact hS.go hk rfl
          apply LinAll.cons0
          · intro g L a x hLi haft hS hK; have t20 := (hK.old 20 (by kernel_rfl)).trans o20; (try dsimp only at t20); refine go_in (wanted_all rfl) ?_; intro K hk; obtain ⟨c0, c1, c2⟩ := (hS.own _ (.tail _ (.tail _ (.tail _ (.tail _ (.head _)))))).2.get3; clear haft hK hLi; go_simp; exact hS.go hk rfl
          apply LinAll.cons0
          · intro g L a x hLi haft hS hK; have t21 := (hK.old 21 (by kernel_rfl)).trans o21; (try dsimp only at t21); refine go_in (wanted_all rfl) ?_; intro K hk; obtain ⟨c0, c1, c2⟩ := (hS.own _ (.tail _ (.tail _ (.tail _ (.tail _ (.tail _ (.head _))))))).2.get3; clear haft hK hLi; go_simp; exact hS.go hk rfl
          apply LinAll.cons0
          · intro g L a x hLi haft hS hK; have t66 := hK.new 6 2 _ 66 _ rfl rfl rfl (by kernel_rfl) (waits haft 6 (by kernel_rfl)); have t67 := hK.new 7 1 _ 67 _ rfl rfl rfl (by kernel_rfl) (waits haft 7 (by kernel_rfl)); have t68 := hK.new 8 0 _ 68 _ rfl rfl rfl (by kernel_rfl) (waits haft 8 (by kernel_rfl)); (try dsimp only at t66 t67 t68); refine go_in (wanted_all rfl) ?_; intro K hk; clear haft hK hLi; go_simp; refine (HC2.out _).mono ?_; rintro e y ⟨rfl, hb⟩; exact hS.on hk hb rfl
          apply LinAll.cons0
          · intro g L a x hLi haft hS hK; have t64 := hK.new 4 5 _ 64 _ rfl rfl rfl (by kernel_rfl) (waits haft 4 (by kernel_rfl)); have t69 := hK.new 9 0 _ 69 _ rfl rfl rfl (by kernel_rfl) (waits haft 9 (by kernel_rfl)); (try dsimp only at t64 t69); refine go_in (wanted_all rfl) ?_; intro K hk; clear haft hK hLi; go_simp; exact hS.go hk rfl
          refine LinAll.nil fun g x hS => ?_
          subst ha0
          simp only [Act.put, List.setIfInBounds_toArray, List.set_cons_zero, List.set_cons_succ]
          clear o15 o16 o20 o21 o22
          have KL := And.intro (hS.own _ (.head _)).2.get3 (And.intro (hS.own _ (.tail _ (.head _))).2.get3 (And.intro (hS.own _ (.tail _ (.tail _ (.head _)))).2.get3 (And.intro (hS.own _ (.tail _ (.tail _ (.tail _ (.head _))))).2.get3 (And.intro (hS.own _ (.tail _ (.tail _ (.tail _ (.tail _ (.head _)))))).2.get3 (hS.own _ (.tail _ (.tail _ (.tail _ (.tail _ (.tail _ (.head _))))))).2.get3))))
          have hBq := hS.below
          have hBs := hBq.size
          clear hS
          go_wp2_with fail
          refine ⟨⟨q + 1, by omega, by go_num, ⟨?_, ?_, ?_, ?_, ?_, ?_, ?_, ?_, ?_, ?_, ?_, ?_, ?_, ?_, ?_, ?_, ?_, ?_⟩, hBq⟩, by simp [intOf]; omega⟩
          all_goals simp [KL]
        · obtain rfl : q = 4 := by omega
          clear HCS
          have htri : n < m ∨ n = m ∨ m < n := by omega
          rcases htri with ht | ht | ht
          · skip
            have heq : eqB n m = false := by simp [eqB]; omega
            have H29 : Hid (∀ wx, Calls Try.prog 34 #[.int .i64 29, .agg #[.int .i64 W, .int .u64 (LO (n)), .int .u64 (HI (n))], .agg #[.int .i64 W, .int .u64 (LO (m)), .int .u64 (HI (m))]] wx fun e w' => e = .returned (.agg #[.int .i64 0, .int .u64 (LO (b01 true)), .int .u64 (HI (b01 true))]) ∧ Below wx.heap.size wx w') := fun wx => by
              have h := do_cmp (k := 0) (op := 29) rfl (by decide) (Wd.mk' h1 h2 hn) (Wd.mk' h1 h2 hm) wx
              rw [show cmpv 0 W n m = true by simp [cmpv, ltB]; omega] at h
              exact h
            have H30 : Hid (∀ wx, Calls Try.prog 34 #[.int .i64 30, .agg #[.int .i64 W, .int .u64 (LO (n)), .int .u64 (HI (n))], .agg #[.int .i64 W, .int .u64 (LO (m)), .int .u64 (HI (m))]] wx fun e w' => e = .returned (.agg #[.int .i64 0, .int .u64 (LO (b01 true)), .int .u64 (HI (b01 true))]) ∧ Below wx.heap.size wx w') := fun wx => by
              have h := do_cmp (k := 1) (op := 30) rfl (by decide) (Wd.mk' h1 h2 hn) (Wd.mk' h1 h2 hm) wx
              rw [show cmpv 1 W n m = true by simp [cmpv, ltB]; omega] at h
              exact h
            have H31r : Hid (∀ wx, Calls Try.prog 34 #[.int .i64 31, .agg #[.int .i64 W, .int .u64 (LO (m)), .int .u64 (HI (m))], .agg #[.int .i64 W, .int .u64 (LO (n)), .int .u64 (HI (n))]] wx fun e w' => e = .returned (.agg #[.int .i64 0, .int .u64 (LO (b01 true)), .int .u64 (HI (b01 true))]) ∧ Below wx.heap.size wx w') := fun wx => by
              have h := do_cmp (k := 2) (op := 31) rfl (by decide) (Wd.mk' h1 h2 hm) (Wd.mk' h1 h2 hn) wx
              rw [show cmpv 2 W m n = true by simp [cmpv, ltB]; omega] at h
              exact h
            have H32r : Hid (∀ wx, Calls Try.prog 34 #[.int .i64 32, .agg #[.int .i64 W, .int .u64 (LO (m)), .int .u64 (HI (m))], .agg #[.int .i64 W, .int .u64 (LO (n)), .int .u64 (HI (n))]] wx fun e w' => e = .returned (.agg #[.int .i64 0, .int .u64 (LO (b01 true)), .int .u64 (HI (b01 true))]) ∧ Below wx.heap.size wx w') := fun wx => by
              have h := do_cmp (k := 3) (op := 32) rfl (by decide) (Wd.mk' h1 h2 hm) (Wd.mk' h1 h2 hn) wx
              rw [show cmpv 3 W m n = true by simp [cmpv, ltB]; omega] at h
              exact h
            have H31 : Hid (∀ wx, Calls Try.prog 34 #[.int .i64 31, .agg #[.int .i64 W, .int .u64 (LO (n)), .int .u64 (HI (n))], .agg #[.int .i64 W, .int .u64 (LO (m)), .int .u64 (HI (m))]] wx fun e w' => e = .returned (.agg #[.int .i64 0, .int .u64 (LO (b01 false)), .int .u64 (HI (b01 false))]) ∧ Below wx.heap.size wx w') := fun wx => by
              have h := do_cmp (k := 2) (op := 31) rfl (by decide) (Wd.mk' h1 h2 hn) (Wd.mk' h1 h2 hm) wx
              rw [show cmpv 2 W n m = false by simp [cmpv, ltB]; omega] at h
              exact h
            have H8 : Hid (∀ wx, Calls Try.prog 34 #[.int .i64 8, .agg #[.int .i64 W, .int .u64 (LO (n)), .int .u64 (HI (n))], .agg #[.int .i64 W, .int .u64 (LO (m)), .int .u64 (HI (m))]] wx fun e w' => e = .returned (.agg #[.int .i64 0, .int .u64 (LO (b01 false)), .int .u64 (HI (b01 false))]) ∧ Below wx.heap.size wx w') := fun wx => do_eq heq (Wd.mk' h1 h2 hn) (Wd.mk' h1 h2 hm) wx
            have H37 : Hid (∀ wx, Calls Try.prog 34 #[.int .i64 37, .agg #[.int .i64 W, .int .u64 (LO (n)), .int .u64 (HI (n))], .agg #[.int .i64 W, .int .u64 (LO (m)), .int .u64 (HI (m))]] wx fun e w' => e = .returned (.agg #[.int .i64 1, .int .u64 0, .int .u64 0]) ∧ Below wx.heap.size wx w') := fun wx => do_comp heq (Wd.mk' h1 h2 hn) (Wd.mk' h1 h2 hm) wx
            have hmk : n ≤ m := by omega
            clear ht
            go_upto_region 12 with fail
            go_cut [23, 24] from 71 to 80 (fun v23 v24 X => v23 = .bool true ∧ v24 = .bool true ∧ (X.cell? ⟨w4.heap.size, 0, none⟩ = some (.int .i64 W) ∧ X.cell? ⟨w4.heap.size, 1, none⟩ = some (.int .u64 (LO (n))) ∧ X.cell? ⟨w4.heap.size, 2, none⟩ = some (.int .u64 (HI (n))) ∧ X.cell? ⟨w4.heap.size + 1, 0, none⟩ = some (.int .i64 W) ∧ X.cell? ⟨w4.heap.size + 1, 1, none⟩ = some (.int .u64 (LO (m))) ∧ X.cell? ⟨w4.heap.size + 1, 2, none⟩ = some (.int .u64 (HI (m))) ∧ X.cell? ⟨w4.heap.size + 1 + 1, 0, none⟩ = some (.int .i64 W) ∧ X.cell? ⟨w4.heap.size + 1 + 1, 1, none⟩ = some (.int .u64 (LO (k))) ∧ X.cell? ⟨w4.heap.size + 1 + 1, 2, none⟩ = some (.int .u64 (HI (k))) ∧ X.cell? ⟨w5.heap.size, 0, none⟩ = some (.int .i64 0) ∧ X.cell? ⟨w5.heap.size, 1, none⟩ = some (.int .u64 (LO (b01 true))) ∧ X.cell? ⟨w5.heap.size, 2, none⟩ = some (.int .u64 (HI (b01 true)))) ∧ Below w.heap.size w X)
            case first =>
              refine wp_named fun a0 ha0 => ?_
              have o15 := old_at ha0 (t := 15) rfl
              have o16 := old_at ha0 (t := 16) rfl
              have o18 := old_at ha0 (t := 18) rfl
              refine wp_region_lin (S := SS w wr.heap.size [(w4.heap.size, [.int .i64 W, .int .u64 (LO (n)), .int .u64 (HI (n))]), (w4.heap.size + 1, [.int .i64 W, .int .u64 (LO (m)), .int .u64 (HI (m))]), (w4.heap.size + 1 + 1, [.int .i64 W, .int .u64 (LO (k)), .int .u64 (HI (k))]), (w5.heap.size, [.int .i64 0, .int .u64 (LO (b01 true)), .int .u64 (HI (b01 true))])] []) [] (fun _ => 0) (by kernel_rfl) (by kernel_rfl) (by rw [← ha0]; kernel_rfl) (SS.start (by first | assumption | go_grown) ?_) ?_
              · intro p hp; simp only [List.mem_cons, List.not_mem_nil, or_false] at hp; rcases hp with rfl | rfl | rfl | rfl; all_goals exact ⟨At.three (by simp [KF1]) (by simp [KF1]) (by simp [KF1]), by simp⟩
              apply LinAll.cons0
              · intro g L a x hLi haft hS hK; have t15 := (hK.old 15 (by kernel_rfl)).trans o15; (try dsimp only at t15); refine go_in (wanted_all rfl) ?_; intro K hk; obtain ⟨c0, c1, c2⟩ := (hS.own _ (.head _)).2.get3; clear haft hK hLi; go_simp; exact hS.go hk rfl
              apply LinAll.cons0
              · intro g L a x hLi haft hS hK; have t16 := (hK.old 16 (by kernel_rfl)).trans o16; (try dsimp only at t16); refine go_in (wanted_all rfl) ?_; intro K hk; obtain ⟨c0, c1, c2⟩ := (hS.own _ (.tail _ (.head _))).2.get3; clear haft hK hLi; go_simp; exact hS.go hk rfl
              apply LinAll.cons0
              · intro g L a x hLi haft hS hK; have t71 := hK.new 0 1 _ 71 _ rfl rfl rfl (by kernel_rfl) (waits haft 0 (by kernel_rfl)); have t72 := hK.new 1 0 _ 72 _ rfl rfl rfl (by kernel_rfl) (waits haft 1 (by kernel_rfl)); (try dsimp only at t71 t72); refine go_in (wanted_all rfl) ?_; intro K hk; clear haft hK hLi; go_simp; refine (H29.out _).mono ?_; rintro e y ⟨rfl, hb⟩; exact hS.on hk hb rfl
              apply LinAll.cons0
              · intro g L a x hLi haft hS hK; have t18 := (hK.old 18 (by kernel_rfl)).trans o18; (try dsimp only at t18); refine go_in (wanted_all rfl) ?_; intro K hk; obtain ⟨c0, c1, c2⟩ := (hS.own _ (.tail _ (.tail _ (.tail _ (.head _))))).2.get3; clear haft hK hLi; go_simp; exact hS.go hk rfl
              apply LinAll.cons0
              · intro g L a x hLi haft hS hK; have t73 := hK.new 2 1 _ 73 _ rfl rfl rfl (by kernel_rfl) (waits haft 2 (by kernel_rfl)); have t74 := hK.new 3 0 _ 74 _ rfl rfl rfl (by kernel_rfl) (waits haft 3 (by kernel_rfl)); (try dsimp only at t73 t74); refine go_in (wanted_all rfl) ?_; intro K hk; clear haft hK hLi; go_simp; exact hS.go hk rfl
              apply LinAll.cons0
              · intro g L a x hLi haft hS hK; have t15 := (hK.old 15 (by kernel_rfl)).trans o15; (try dsimp only at t15); refine go_in (wanted_all rfl) ?_; intro K hk; obtain ⟨c0, c1, c2⟩ := (hS.own _ (.head _)).2.get3; clear haft hK hLi; go_simp; exact hS.go hk rfl
              apply LinAll.cons0
              · intro g L a x hLi haft hS hK; have t16 := (hK.old 16 (by kernel_rfl)).trans o16; (try dsimp only at t16); refine go_in (wanted_all rfl) ?_; intro K hk; obtain ⟨c0, c1, c2⟩ := (hS.own _ (.tail _ (.head _))).2.get3; clear haft hK hLi; go_simp; exact hS.go hk rfl
              apply LinAll.cons0
              · intro g L a x hLi haft hS hK; have t76 := hK.new 5 1 _ 76 _ rfl rfl rfl (by kernel_rfl) (waits haft 5 (by kernel_rfl)); have t77 := hK.new 6 0 _ 77 _ rfl rfl rfl (by kernel_rfl) (waits haft 6 (by kernel_rfl)); (try dsimp only at t76 t77); refine go_in (wanted_all rfl) ?_; intro K hk; clear haft hK hLi; go_simp; refine (H30.out _).mono ?_; rintro e y ⟨rfl, hb⟩; exact hS.on hk hb rfl
              apply LinAll.cons0
              · intro g L a x hLi haft hS hK; have t18 := (hK.old 18 (by kernel_rfl)).trans o18; (try dsimp only at t18); refine go_in (wanted_all rfl) ?_; intro K hk; obtain ⟨c0, c1, c2⟩ := (hS.own _ (.tail _ (.tail _ (.tail _ (.head _))))).2.get3; clear haft hK hLi; go_simp; exact hS.go hk rfl
              apply LinAll.cons0
              · intro g L a x hLi haft hS hK; have t78 := hK.new 7 1 _ 78 _ rfl rfl rfl (by kernel_rfl) (waits haft 7 (by kernel_rfl)); have t79 := hK.new 8 0 _ 79 _ rfl rfl rfl (by kernel_rfl) (waits haft 8 (by kernel_rfl)); (try dsimp only at t78 t79); refine go_in (wanted_all rfl) ?_; intro K hk; clear haft hK hLi; go_simp; exact hS.go hk rfl
              apply LinAll.cons0
              · intro g L a x hLi haft hS hK; have t75 := hK.new 4 5 _ 75 _ rfl rfl rfl (by kernel_rfl) (waits haft 4 (by kernel_rfl)); (try dsimp only at t75); refine go_in (wanted_all rfl) ?_; intro K hk; clear haft hK hLi; go_simp; exact hS.go hk rfl
              apply LinAll.cons0
              · intro g L a x hLi haft hS hK; have t80 := hK.new 9 1 _ 80 _ rfl rfl rfl (by kernel_rfl) (waits haft 9 (by kernel_rfl)); (try dsimp only at t80); refine go_in (wanted_all rfl) ?_; intro K hk; clear haft hK hLi; go_simp; exact hS.go hk rfl
              refine LinAll.nil fun g x hS => ?_
              subst ha0
              simp only [Act.put, List.setIfInBounds_toArray, List.set_cons_zero, List.set_cons_succ]
              clear o15 o16 o18
              have KL := And.intro (hS.own _ (.head _)).2.get3 (And.intro (hS.own _ (.tail _ (.head _))).2.get3 (And.intro (hS.own _ (.tail _ (.tail _ (.head _)))).2.get3 (hS.own _ (.tail _ (.tail _ (.tail _ (.head _))))).2.get3))
              have hBq := hS.below
              have hBs := hBq.size
              clear hS
              go_wp2_with fail
              go_meet
              case rel =>
                refine ⟨rfl, rfl, ⟨?_, ?_, ?_, ?_, ?_, ?_, ?_, ?_, ?_, ?_, ?_, ?_⟩, hBq⟩
                all_goals simp [KL]
            case rest =>
              clear KF1 hbl1 hbs1 H29 H30
              obtain ⟨rfl, rfl, KF1, hbl1⟩ := hcut
              have hbs1 := hbl1.size
              go_upto_region 13 with fail
              go_cut [135] from 81 to 135 (fun v135 X => v135 = .bool false ∧ (X.cell? ⟨w4.heap.size, 0, none⟩ = some (.int .i64 W) ∧ X.cell? ⟨w4.heap.size, 1, none⟩ = some (.int .u64 (LO (n))) ∧ X.cell? ⟨w4.heap.size, 2, none⟩ = some (.int .u64 (HI (n))) ∧ X.cell? ⟨w4.heap.size + 1, 0, none⟩ = some (.int .i64 W) ∧ X.cell? ⟨w4.heap.size + 1, 1, none⟩ = some (.int .u64 (LO (m))) ∧ X.cell? ⟨w4.heap.size + 1, 2, none⟩ = some (.int .u64 (HI (m))) ∧ X.cell? ⟨w4.heap.size + 1 + 1, 0, none⟩ = some (.int .i64 W) ∧ X.cell? ⟨w4.heap.size + 1 + 1, 1, none⟩ = some (.int .u64 (LO (k))) ∧ X.cell? ⟨w4.heap.size + 1 + 1, 2, none⟩ = some (.int .u64 (HI (k))) ∧ X.cell? ⟨w5.heap.size, 0, none⟩ = some (.int .i64 0) ∧ X.cell? ⟨w5.heap.size, 1, none⟩ = some (.int .u64 (LO (b01 true))) ∧ X.cell? ⟨w5.heap.size, 2, none⟩ = some (.int .u64 (HI (b01 true)))) ∧ Below w.heap.size w X)
              case first =>
                refine wp_named fun a0 ha0 => ?_
                have o15 := old_at ha0 (t := 15) rfl
                have o16 := old_at ha0 (t := 16) rfl
                have o18 := old_at ha0 (t := 18) rfl
                have o23 := old_at ha0 (t := 23) rfl
                have o24 := old_at ha0 (t := 24) rfl
                refine wp_region_lin (S := SS w wc.heap.size [(w4.heap.size, [.int .i64 W, .int .u64 (LO (n)), .int .u64 (HI (n))]), (w4.heap.size + 1, [.int .i64 W, .int .u64 (LO (m)), .int .u64 (HI (m))]), (w4.heap.size + 1 + 1, [.int .i64 W, .int .u64 (LO (k)), .int .u64 (HI (k))]), (w5.heap.size, [.int .i64 0, .int .u64 (LO (b01 true)), .int .u64 (HI (b01 true))])] []) [] (fun _ => 0) (by kernel_rfl) (by kernel_rfl) (by rw [← ha0]; kernel_rfl) (SS.start (by first | assumption | go_grown) ?_) ?_
                · intro p hp; simp only [List.mem_cons, List.not_mem_nil, or_false] at hp; rcases hp with rfl | rfl | rfl | rfl; all_goals exact ⟨At.three (by simp [KF1]) (by simp [KF1]) (by simp [KF1]), by simp⟩
                apply LinAll.cons0
                · intro g L a x hLi haft hS hK; have t23 := (hK.old 23 (by kernel_rfl)).trans o23; (try dsimp only at t23); refine go_in (wanted_all rfl) ?_; intro K hk; clear haft hK hLi; go_simp; exact hS.go hk rfl
                apply LinAll.cons0
                · intro g L a x hLi haft hS hK; have t81 := hK.new 0 0 _ 81 _ rfl rfl rfl (by kernel_rfl) (waits haft 0 (by kernel_rfl)); (try dsimp only at t81); refine go_in (wanted_all rfl) ?_; intro K hk; clear haft hK hLi; go_simp; exact hS.go hk rfl
                apply LinAll.cons0
                · intro g L a x hLi haft hS hK; have t24 := (hK.old 24 (by kernel_rfl)).trans o24; have tg := hK.new 1 0 _ 82 _ rfl rfl rfl (by kernel_rfl) (waits haft 1 (by kernel_rfl)); (try dsimp only at t24); refine go_in (wanted_at rfl rfl rfl tg rfl) ?_; intro K hk; clear haft hK tg hLi; go_simp; exact hS.go hk rfl
                apply LinAll.cons0
                · intro g L a x hLi haft hS hK; have t23 := (hK.old 23 (by kernel_rfl)).trans o23; have tg := hK.new 1 1 _ 82 _ rfl rfl rfl (by kernel_rfl) (waits haft 1 (by kernel_rfl)); (try dsimp only at t23); refine go_in (wanted_at rfl rfl rfl tg rfl) ?_; intro K hk; clear haft hK tg hLi; go_simp; exact hS.go hk rfl
                apply LinAll.cons0
                · intro g L a x hLi haft hS hK; have t83 := hK.new 2 1 _ 83 _ rfl rfl rfl (by kernel_rfl) (waits haft 2 (by kernel_rfl)); have t84 := hK.new 3 0 _ 84 _ rfl rfl rfl (by kernel_rfl) (waits haft 3 (by kernel_rfl)); have tg := hK.new 1 2 _ 82 _ rfl rfl rfl (by kernel_rfl) (waits haft 1 (by kernel_rfl)); (try dsimp only at t83 t84); refine go_in (wanted_at rfl rfl rfl tg rfl) ?_; intro K hk; clear haft hK tg hLi; go_simp; exact hS.go hk rfl
                apply LinAll.cons0
                · intro g L a x hLi haft hS hK; have t82 := hK.new 1 3 _ 82 _ rfl rfl rfl (by kernel_rfl) (waits haft 1 (by kernel_rfl)); have t85 := hK.new 4 0 _ 85 _ rfl rfl rfl (by kernel_rfl) (waits haft 4 (by kernel_rfl)); (try dsimp only at t82 t85); refine go_in (wanted_all rfl) ?_; intro K hk; clear haft hK hLi; go_simp; exact hS.go hk rfl
                apply LinAll.cons0
                · intro g L a x hLi haft hS hK; have t86 := hK.new 5 0 _ 86 _ rfl rfl rfl (by kernel_rfl) (waits haft 5 (by kernel_rfl)); (try dsimp only at t86); refine go_in (wanted_all rfl) ?_; intro K hk; clear haft hK hLi; go_simp; exact hS.go hk rfl
                apply LinAll.cons0
                · intro g L a x hLi haft hS hK; have t23 := (hK.old 23 (by kernel_rfl)).trans o23; have tg := hK.new 6 0 _ 87 _ rfl rfl rfl (by kernel_rfl) (waits haft 6 (by kernel_rfl)); (try dsimp only at t23); refine go_in (wanted_at rfl rfl rfl tg rfl) ?_; intro K hk; clear haft hK tg hLi; go_simp; exact hS.go hk rfl
                apply LinAll.cons0
                · intro g L a x hLi haft hS hK; have t16 := (hK.old 16 (by kernel_rfl)).trans o16; have tg := hK.new 6 1 _ 87 _ rfl rfl rfl (by kernel_rfl) (waits haft 6 (by kernel_rfl)); (try dsimp only at t16); refine go_in (wanted_at rfl rfl rfl tg rfl) ?_; intro K hk; obtain ⟨c0, c1, c2⟩ := (hS.own _ (.tail _ (.head _))).2.get3; clear haft hK tg hLi; go_simp; exact hS.go hk rfl
                apply LinAll.cons0
                · intro g L a x hLi haft hS hK; have t15 := (hK.old 15 (by kernel_rfl)).trans o15; have tg := hK.new 6 2 _ 87 _ rfl rfl rfl (by kernel_rfl) (waits haft 6 (by kernel_rfl)); (try dsimp only at t15); refine go_in (wanted_at rfl rfl rfl tg rfl) ?_; intro K hk; obtain ⟨c0, c1, c2⟩ := (hS.own _ (.head _)).2.get3; clear haft hK tg hLi; go_simp; exact hS.go hk rfl
                apply LinAll.cons0
                · intro g L a x hLi haft hS hK; have t89 := hK.new 8 1 _ 89 _ rfl rfl rfl (by kernel_rfl) (waits haft 8 (by kernel_rfl)); have t90 := hK.new 9 0 _ 90 _ rfl rfl rfl (by kernel_rfl) (waits haft 9 (by kernel_rfl)); have tg := hK.new 6 3 _ 87 _ rfl rfl rfl (by kernel_rfl) (waits haft 6 (by kernel_rfl)); (try dsimp only at t89 t90); refine go_in (wanted_at rfl rfl rfl tg rfl) ?_; intro K hk; clear haft hK tg hLi; go_simp; refine (H31r.out _).mono ?_; rintro e y ⟨rfl, hb⟩; exact hS.on hk hb rfl
                apply LinAll.cons0
                · intro g L a x hLi haft hS hK; have t18 := (hK.old 18 (by kernel_rfl)).trans o18; have tg := hK.new 6 4 _ 87 _ rfl rfl rfl (by kernel_rfl) (waits haft 6 (by kernel_rfl)); (try dsimp only at t18); refine go_in (wanted_at rfl rfl rfl tg rfl) ?_; intro K hk; obtain ⟨c0, c1, c2⟩ := (hS.own _ (.tail _ (.tail _ (.tail _ (.head _))))).2.get3; clear haft hK tg hLi; go_simp; exact hS.go hk rfl
                apply LinAll.cons0
                · intro g L a x hLi haft hS hK; have t91 := hK.new 10 1 _ 91 _ rfl rfl rfl (by kernel_rfl) (waits haft 10 (by kernel_rfl)); have t92 := hK.new 11 0 _ 92 _ rfl rfl rfl (by kernel_rfl) (waits haft 11 (by kernel_rfl)); have tg := hK.new 6 5 _ 87 _ rfl rfl rfl (by kernel_rfl) (waits haft 6 (by kernel_rfl)); (try dsimp only at t91 t92); refine go_in (wanted_at rfl rfl rfl tg rfl) ?_; intro K hk; clear haft hK tg hLi; go_simp; exact hS.go hk rfl
                apply LinAll.cons0
                · intro g L a x hLi haft hS hK; have t88 := hK.new 7 5 _ 88 _ rfl rfl rfl (by kernel_rfl) (waits haft 7 (by kernel_rfl)); have t93 := hK.new 12 0 _ 93 _ rfl rfl rfl (by kernel_rfl) (waits haft 12 (by kernel_rfl)); have tg := hK.new 6 6 _ 87 _ rfl rfl rfl (by kernel_rfl) (waits haft 6 (by kernel_rfl)); (try dsimp only at t88 t93); refine go_in (wanted_at rfl rfl rfl tg rfl) ?_; intro K hk; clear haft hK tg hLi; go_simp; exact hS.go hk rfl
                apply LinAll.cons0
                · intro g L a x hLi haft hS hK; have t87 := hK.new 6 7 _ 87 _ rfl rfl rfl (by kernel_rfl) (waits haft 6 (by kernel_rfl)); have t94 := hK.new 13 0 _ 94 _ rfl rfl rfl (by kernel_rfl) (waits haft 13 (by kernel_rfl)); (try dsimp only at t87 t94); refine go_in (wanted_all rfl) ?_; intro K hk; clear haft hK hLi; go_simp; exact hS.go hk rfl
                apply LinAll.cons0
                · intro g L a x hLi haft hS hK; have t95 := hK.new 14 0 _ 95 _ rfl rfl rfl (by kernel_rfl) (waits haft 14 (by kernel_rfl)); (try dsimp only at t95); refine go_in (wanted_all rfl) ?_; intro K hk; clear haft hK hLi; go_simp; exact hS.go hk rfl
                apply LinAll.cons0
                · intro g L a x hLi haft hS hK; have t24 := (hK.old 24 (by kernel_rfl)).trans o24; have tg := hK.new 15 0 _ 96 _ rfl rfl rfl (by kernel_rfl) (waits haft 15 (by kernel_rfl)); (try dsimp only at t24); refine go_in (wanted_at rfl rfl rfl tg rfl) ?_; intro K hk; clear haft hK tg hLi; go_simp; exact hS.go hk rfl
                apply LinAll.cons0
                · intro g L a x hLi haft hS hK; have t16 := (hK.old 16 (by kernel_rfl)).trans o16; have tg := hK.new 15 1 _ 96 _ rfl rfl rfl (by kernel_rfl) (waits haft 15 (by kernel_rfl)); (try dsimp only at t16); refine go_in (wanted_at rfl rfl rfl tg rfl) ?_; intro K hk; obtain ⟨c0, c1, c2⟩ := (hS.own _ (.tail _ (.head _))).2.get3; clear haft hK tg hLi; go_simp; exact hS.go hk rfl
                apply LinAll.cons0
                · intro g L a x hLi haft hS hK; have t15 := (hK.old 15 (by kernel_rfl)).trans o15; have tg := hK.new 15 2 _ 96 _ rfl rfl rfl (by kernel_rfl) (waits haft 15 (by kernel_rfl)); (try dsimp only at t15); refine go_in (wanted_at rfl rfl rfl tg rfl) ?_; intro K hk; obtain ⟨c0, c1, c2⟩ := (hS.own _ (.head _)).2.get3; clear haft hK tg hLi; go_simp; exact hS.go hk rfl
                apply LinAll.cons0
                · intro g L a x hLi haft hS hK; have t98 := hK.new 17 1 _ 98 _ rfl rfl rfl (by kernel_rfl) (waits haft 17 (by kernel_rfl)); have t99 := hK.new 18 0 _ 99 _ rfl rfl rfl (by kernel_rfl) (waits haft 18 (by kernel_rfl)); have tg := hK.new 15 3 _ 96 _ rfl rfl rfl (by kernel_rfl) (waits haft 15 (by kernel_rfl)); (try dsimp only at t98 t99); refine go_in (wanted_at rfl rfl rfl tg rfl) ?_; intro K hk; clear haft hK tg hLi; go_simp; refine (H32r.out _).mono ?_; rintro e y ⟨rfl, hb⟩; exact hS.on hk hb rfl
                apply LinAll.cons0
                · intro g L a x hLi haft hS hK; have t18 := (hK.old 18 (by kernel_rfl)).trans o18; have tg := hK.new 15 4 _ 96 _ rfl rfl rfl (by kernel_rfl) (waits haft 15 (by kernel_rfl)); (try dsimp only at t18); refine go_in (wanted_at rfl rfl rfl tg rfl) ?_; intro K hk; obtain ⟨c0, c1, c2⟩ := (hS.own _ (.tail _ (.tail _ (.tail _ (.head _))))).2.get3; clear haft hK tg hLi; go_simp; exact hS.go hk rfl
                apply LinAll.cons0
                · intro g L a x hLi haft hS hK; have t100 := hK.new 19 1 _ 100 _ rfl rfl rfl (by kernel_rfl) (waits haft 19 (by kernel_rfl)); have t101 := hK.new 20 0 _ 101 _ rfl rfl rfl (by kernel_rfl) (waits haft 20 (by kernel_rfl)); have tg := hK.new 15 5 _ 96 _ rfl rfl rfl (by kernel_rfl) (waits haft 15 (by kernel_rfl)); (try dsimp only at t100 t101); refine go_in (wanted_at rfl rfl rfl tg rfl) ?_; intro K hk; clear haft hK tg hLi; go_simp; exact hS.go hk rfl
                apply LinAll.cons0
                · intro g L a x hLi haft hS hK; have t97 := hK.new 16 5 _ 97 _ rfl rfl rfl (by kernel_rfl) (waits haft 16 (by kernel_rfl)); have t102 := hK.new 21 0 _ 102 _ rfl rfl rfl (by kernel_rfl) (waits haft 21 (by kernel_rfl)); have tg := hK.new 15 6 _ 96 _ rfl rfl rfl (by kernel_rfl) (waits haft 15 (by kernel_rfl)); (try dsimp only at t97 t102); refine go_in (wanted_at rfl rfl rfl tg rfl) ?_; intro K hk; clear haft hK tg hLi; go_simp; exact hS.go hk rfl
                apply LinAll.cons0
                · intro g L a x hLi haft hS hK; have t96 := hK.new 15 7 _ 96 _ rfl rfl rfl (by kernel_rfl) (waits haft 15 (by kernel_rfl)); have t103 := hK.new 22 0 _ 103 _ rfl rfl rfl (by kernel_rfl) (waits haft 22 (by kernel_rfl)); (try dsimp only at t96 t103); refine go_in (wanted_all rfl) ?_; intro K hk; clear haft hK hLi; go_simp; exact hS.go hk rfl
                apply LinAll.cons0
                · intro g L a x hLi haft hS hK; have t104 := hK.new 23 0 _ 104 _ rfl rfl rfl (by kernel_rfl) (waits haft 23 (by kernel_rfl)); (try dsimp only at t104); refine go_in (wanted_all rfl) ?_; intro K hk; clear haft hK hLi; go_simp; exact hS.go hk rfl
                apply LinAll.cons0
                · intro g L a x hLi haft hS hK; have t24 := (hK.old 24 (by kernel_rfl)).trans o24; have tg := hK.new 24 0 _ 105 _ rfl rfl rfl (by kernel_rfl) (waits haft 24 (by kernel_rfl)); (try dsimp only at t24); refine go_in (wanted_at rfl rfl rfl tg rfl) ?_; intro K hk; clear haft hK tg hLi; go_simp; exact hS.go hk rfl
                apply LinAll.cons0
                · intro g L a x hLi haft hS hK; have t15 := (hK.old 15 (by kernel_rfl)).trans o15; have tg := hK.new 24 1 _ 105 _ rfl rfl rfl (by kernel_rfl) (waits haft 24 (by kernel_rfl)); (try dsimp only at t15); refine go_in (wanted_at rfl rfl rfl tg rfl) ?_; intro K hk; obtain ⟨c0, c1, c2⟩ := (hS.own _ (.head _)).2.get3; clear haft hK tg hLi; go_simp; exact hS.go hk rfl
                apply LinAll.cons0
                · intro g L a x hLi haft hS hK; have t16 := (hK.old 16 (by kernel_rfl)).trans o16; have tg := hK.new 24 2 _ 105 _ rfl rfl rfl (by kernel_rfl) (waits haft 24 (by kernel_rfl)); (try dsimp only at t16); refine go_in (wanted_at rfl rfl rfl tg rfl) ?_; intro K hk; obtain ⟨c0, c1, c2⟩ := (hS.own _ (.tail _ (.head _))).2.get3; clear haft hK tg hLi; go_simp; exact hS.go hk rfl
                apply LinAll.cons0
                · intro g L a x hLi haft hS hK; have t107 := hK.new 26 1 _ 107 _ rfl rfl rfl (by kernel_rfl) (waits haft 26 (by kernel_rfl)); have t108 := hK.new 27 0 _ 108 _ rfl rfl rfl (by kernel_rfl) (waits haft 27 (by kernel_rfl)); have tg := hK.new 24 3 _ 105 _ rfl rfl rfl (by kernel_rfl) (waits haft 24 (by kernel_rfl)); (try dsimp only at t107 t108); refine go_in (wanted_at rfl rfl rfl tg rfl) ?_; intro K hk; clear haft hK tg hLi; go_simp; refine (H31.out _).mono ?_; rintro e y ⟨rfl, hb⟩; exact hS.on hk hb rfl
                apply LinAll.cons0
                · intro g L a x hLi haft hS hK; have t18 := (hK.old 18 (by kernel_rfl)).trans o18; have tg := hK.new 24 4 _ 105 _ rfl rfl rfl (by kernel_rfl) (waits haft 24 (by kernel_rfl)); (try dsimp only at t18); refine go_in (wanted_at rfl rfl rfl tg rfl) ?_; intro K hk; obtain ⟨c0, c1, c2⟩ := (hS.own _ (.tail _ (.tail _ (.tail _ (.head _))))).2.get3; clear haft hK tg hLi; go_simp; exact hS.go hk rfl
                apply LinAll.cons0
                · intro g L a x hLi haft hS hK; have t109 := hK.new 28 1 _ 109 _ rfl rfl rfl (by kernel_rfl) (waits haft 28 (by kernel_rfl)); have t110 := hK.new 29 0 _ 110 _ rfl rfl rfl (by kernel_rfl) (waits haft 29 (by kernel_rfl)); have tg := hK.new 24 5 _ 105 _ rfl rfl rfl (by kernel_rfl) (waits haft 24 (by kernel_rfl)); (try dsimp only at t109 t110); refine go_in (wanted_at rfl rfl rfl tg rfl) ?_; intro K hk; clear haft hK tg hLi; go_simp; exact hS.go hk rfl
                apply LinAll.cons0
                · intro g L a x hLi haft hS hK; have t106 := hK.new 25 5 _ 106 _ rfl rfl rfl (by kernel_rfl) (waits haft 25 (by kernel_rfl)); have t111 := hK.new 30 0 _ 111 _ rfl rfl rfl (by kernel_rfl) (waits haft 30 (by kernel_rfl)); have tg := hK.new 24 6 _ 105 _ rfl rfl rfl (by kernel_rfl) (waits haft 24 (by kernel_rfl)); (try dsimp only at t106 t111); refine go_in (wanted_at rfl rfl rfl tg rfl) ?_; intro K hk; clear haft hK tg hLi; go_simp; exact hS.go hk rfl
                apply LinAll.cons0
                · intro g L a x hLi haft hS hK; have t105 := hK.new 24 7 _ 105 _ rfl rfl rfl (by kernel_rfl) (waits haft 24 (by kernel_rfl)); have t112 := hK.new 31 0 _ 112 _ rfl rfl rfl (by kernel_rfl) (waits haft 31 (by kernel_rfl)); (try dsimp only at t105 t112); refine go_in (wanted_all rfl) ?_; intro K hk; clear haft hK hLi; go_simp; exact hS.go hk rfl
                apply LinAll.cons0
                · intro g L a x hLi haft hS hK; have t113 := hK.new 32 0 _ 113 _ rfl rfl rfl (by kernel_rfl) (waits haft 32 (by kernel_rfl)); (try dsimp only at t113); refine go_in (wanted_all rfl) ?_; intro K hk; clear haft hK hLi; go_simp; exact hS.go hk rfl
                apply LinAll.cons0
                · intro g L a x hLi haft hS hK; have t15 := (hK.old 15 (by kernel_rfl)).trans o15; have tg := hK.new 33 0 _ 114 _ rfl rfl rfl (by kernel_rfl) (waits haft 33 (by kernel_rfl)); (try dsimp only at t15); refine go_in (wanted_at rfl rfl rfl tg rfl) ?_; intro K hk; obtain ⟨c0, c1, c2⟩ := (hS.own _ (.head _)).2.get3; clear haft hK tg hLi; go_simp; exact hS.go hk rfl
                apply LinAll.cons0
                · intro g L a x hLi haft hS hK; have t16 := (hK.old 16 (by kernel_rfl)).trans o16; have tg := hK.new 33 1 _ 114 _ rfl rfl rfl (by kernel_rfl) (waits haft 33 (by kernel_rfl)); (try dsimp only at t16); refine go_in (wanted_at rfl rfl rfl tg rfl) ?_; intro K hk; obtain ⟨c0, c1, c2⟩ := (hS.own _ (.tail _ (.head _))).2.get3; clear haft hK tg hLi; go_simp; exact hS.go hk rfl
                apply LinAll.cons0
                · intro g L a x hLi haft hS hK; have t115 := hK.new 34 1 _ 115 _ rfl rfl rfl (by kernel_rfl) (waits haft 34 (by kernel_rfl)); have t116 := hK.new 35 0 _ 116 _ rfl rfl rfl (by kernel_rfl) (waits haft 35 (by kernel_rfl)); have tg := hK.new 33 2 _ 114 _ rfl rfl rfl (by kernel_rfl) (waits haft 33 (by kernel_rfl)); (try dsimp only at t115 t116); refine go_in (wanted_at rfl rfl rfl tg rfl) ?_; intro K hk; clear haft hK tg hLi; go_simp; refine (H8.out _).mono ?_; rintro e y ⟨rfl, hb⟩; exact hS.on hk hb rfl
                apply LinAll.cons0
                · intro g L a x hLi haft hS hK; have t18 := (hK.old 18 (by kernel_rfl)).trans o18; have tg := hK.new 33 3 _ 114 _ rfl rfl rfl (by kernel_rfl) (waits haft 33 (by kernel_rfl)); (try dsimp only at t18); refine go_in (wanted_at rfl rfl rfl tg rfl) ?_; intro K hk; obtain ⟨c0, c1, c2⟩ := (hS.own _ (.tail _ (.tail _ (.tail _ (.head _))))).2.get3; clear haft hK tg hLi; go_simp; exact hS.go hk rfl
                apply LinAll.cons0
                · intro g L a x hLi haft hS hK; have t117 := hK.new 36 1 _ 117 _ rfl rfl rfl (by kernel_rfl) (waits haft 36 (by kernel_rfl)); have t118 := hK.new 37 0 _ 118 _ rfl rfl rfl (by kernel_rfl) (waits haft 37 (by kernel_rfl)); have tg := hK.new 33 4 _ 114 _ rfl rfl rfl (by kernel_rfl) (waits haft 33 (by kernel_rfl)); (try dsimp only at t117 t118); refine go_in (wanted_at rfl rfl rfl tg rfl) ?_; intro K hk; clear haft hK tg hLi; go_simp; exact hS.go hk rfl
                apply LinAll.cons0
                · intro g L a x hLi haft hS hK; have t15 := (hK.old 15 (by kernel_rfl)).trans o15; have tg := hK.new 33 5 _ 114 _ rfl rfl rfl (by kernel_rfl) (waits haft 33 (by kernel_rfl)); (try dsimp only at t15); refine go_in (wanted_at rfl rfl rfl tg rfl) ?_; intro K hk; obtain ⟨c0, c1, c2⟩ := (hS.own _ (.head _)).2.get3; clear haft hK tg hLi; go_simp; exact hS.go hk rfl
                apply LinAll.cons0
                · intro g L a x hLi haft hS hK; have t16 := (hK.old 16 (by kernel_rfl)).trans o16; have tg := hK.new 33 6 _ 114 _ rfl rfl rfl (by kernel_rfl) (waits haft 33 (by kernel_rfl)); (try dsimp only at t16); refine go_in (wanted_at rfl rfl rfl tg rfl) ?_; intro K hk; obtain ⟨c0, c1, c2⟩ := (hS.own _ (.tail _ (.head _))).2.get3; clear haft hK tg hLi; go_simp; exact hS.go hk rfl
                apply LinAll.cons0
                · intro g L a x hLi haft hS hK; have t120 := hK.new 39 1 _ 120 _ rfl rfl rfl (by kernel_rfl) (waits haft 39 (by kernel_rfl)); have t121 := hK.new 40 0 _ 121 _ rfl rfl rfl (by kernel_rfl) (waits haft 40 (by kernel_rfl)); have tg := hK.new 33 7 _ 114 _ rfl rfl rfl (by kernel_rfl) (waits haft 33 (by kernel_rfl)); (try dsimp only at t120 t121); refine go_in (wanted_at rfl rfl rfl tg rfl) ?_; intro K hk; clear haft hK tg hLi; go_simp; exact hS.go hk rfl
                apply LinAll.cons0
                · intro g L a x hLi haft hS hK; have t119 := hK.new 38 3 _ 119 _ rfl rfl rfl (by kernel_rfl) (waits haft 38 (by kernel_rfl)); have t122 := hK.new 41 0 _ 122 _ rfl rfl rfl (by kernel_rfl) (waits haft 41 (by kernel_rfl)); have tg := hK.new 33 8 _ 114 _ rfl rfl rfl (by kernel_rfl) (waits haft 33 (by kernel_rfl)); (try dsimp only at t119 t122); refine go_in (wanted_at rfl rfl rfl tg rfl) ?_; intro K hk; clear haft hK tg hLi; go_simp; exact hS.go hk rfl
                apply LinAll.cons0
                · intro g L a x hLi haft hS hK; have t114 := hK.new 33 9 _ 114 _ rfl rfl rfl (by kernel_rfl) (waits haft 33 (by kernel_rfl)); have t123 := hK.new 42 0 _ 123 _ rfl rfl rfl (by kernel_rfl) (waits haft 42 (by kernel_rfl)); (try dsimp only at t114 t123); refine go_in (wanted_all rfl) ?_; intro K hk; clear haft hK hLi; go_simp; exact hS.go hk rfl
                apply LinAll.cons0
                · intro g L a x hLi haft hS hK; have t124 := hK.new 43 0 _ 124 _ rfl rfl rfl (by kernel_rfl) (waits haft 43 (by kernel_rfl)); (try dsimp only at t124); refine go_in (wanted_all rfl) ?_; intro K hk; clear haft hK hLi; go_simp; exact hS.go hk rfl
                apply LinAll.cons0
                · intro g L a x hLi haft hS hK; have t15 := (hK.old 15 (by kernel_rfl)).trans o15; have tg := hK.new 44 0 _ 125 _ rfl rfl rfl (by kernel_rfl) (waits haft 44 (by kernel_rfl)); (try dsimp only at t15); refine go_in (wanted_at rfl rfl rfl tg rfl) ?_; intro K hk; obtain ⟨c0, c1, c2⟩ := (hS.own _ (.head _)).2.get3; clear haft hK tg hLi; go_simp; exact hS.go hk rfl
                apply LinAll.cons0
                · intro g L a x hLi haft hS hK; have t16 := (hK.old 16 (by kernel_rfl)).trans o16; have tg := hK.new 44 1 _ 125 _ rfl rfl rfl (by kernel_rfl) (waits haft 44 (by kernel_rfl)); (try dsimp only at t16); refine go_in (wanted_at rfl rfl rfl tg rfl) ?_; intro K hk; obtain ⟨c0, c1, c2⟩ := (hS.own _ (.tail _ (.head _))).2.get3; clear haft hK tg hLi; go_simp; exact hS.go hk rfl
                apply LinAll.cons0
                · intro g L a x hLi haft hS hK; have t126 := hK.new 45 1 _ 126 _ rfl rfl rfl (by kernel_rfl) (waits haft 45 (by kernel_rfl)); have t127 := hK.new 46 0 _ 127 _ rfl rfl rfl (by kernel_rfl) (waits haft 46 (by kernel_rfl)); have tg := hK.new 44 2 _ 125 _ rfl rfl rfl (by kernel_rfl) (waits haft 44 (by kernel_rfl)); (try dsimp only at t126 t127); refine go_in (wanted_at rfl rfl rfl tg rfl) ?_; intro K hk; clear haft hK tg hLi; go_simp; refine (H37.out _).mono ?_; rintro e y ⟨rfl, hb⟩; exact hS.on hk hb rfl
                apply LinAll.cons0
                · intro g L a x hLi haft hS hK; have t128 := hK.new 47 0 _ 128 _ rfl rfl rfl (by kernel_rfl) (waits haft 47 (by kernel_rfl)); have tg := hK.new 44 3 _ 125 _ rfl rfl rfl (by kernel_rfl) (waits haft 44 (by kernel_rfl)); (try dsimp only at t128); refine go_in (wanted_at rfl rfl rfl tg rfl) ?_; intro K hk; clear haft hK tg hLi; go_simp; exact hS.go hk rfl
                apply LinAll.cons0
                · intro g L a x hLi haft hS hK; have t129 := hK.new 48 0 _ 129 _ rfl rfl rfl (by kernel_rfl) (waits haft 48 (by kernel_rfl)); have tg := hK.new 44 4 _ 125 _ rfl rfl rfl (by kernel_rfl) (waits haft 44 (by kernel_rfl)); (try dsimp only at t129); refine go_in (wanted_at rfl rfl rfl tg rfl) ?_; intro K hk; clear haft hK tg hLi; go_simp; exact hS.go hk rfl
                apply LinAll.cons0
                · intro g L a x hLi haft hS hK; have t15 := (hK.old 15 (by kernel_rfl)).trans o15; have tg := hK.new 44 5 _ 125 _ rfl rfl rfl (by kernel_rfl) (waits haft 44 (by kernel_rfl)); (try dsimp only at t15); refine go_in (wanted_at rfl rfl rfl tg rfl) ?_; intro K hk; obtain ⟨c0, c1, c2⟩ := (hS.own _ (.head _)).2.get3; clear haft hK tg hLi; go_simp; exact hS.go hk rfl
                apply LinAll.cons0
                · intro g L a x hLi haft hS hK; have t16 := (hK.old 16 (by kernel_rfl)).trans o16; have tg := hK.new 44 6 _ 125 _ rfl rfl rfl (by kernel_rfl) (waits haft 44 (by kernel_rfl)); (try dsimp only at t16); refine go_in (wanted_at rfl rfl rfl tg rfl) ?_; intro K hk; obtain ⟨c0, c1, c2⟩ := (hS.own _ (.tail _ (.head _))).2.get3; clear haft hK tg hLi; go_simp; exact hS.go hk rfl
                apply LinAll.cons0
                · intro g L a x hLi haft hS hK; have t131 := hK.new 50 1 _ 131 _ rfl rfl rfl (by kernel_rfl) (waits haft 50 (by kernel_rfl)); have t132 := hK.new 51 0 _ 132 _ rfl rfl rfl (by kernel_rfl) (waits haft 51 (by kernel_rfl)); have tg := hK.new 44 7 _ 125 _ rfl rfl rfl (by kernel_rfl) (waits haft 44 (by kernel_rfl)); (try dsimp only at t131 t132); refine go_in (wanted_at rfl rfl rfl tg rfl) ?_; intro K hk; clear haft hK tg hLi; go_simp; exact hS.go hk rfl
                apply LinAll.cons0
                · intro g L a x hLi haft hS hK; have t130 := hK.new 49 3 _ 130 _ rfl rfl rfl (by kernel_rfl) (waits haft 49 (by kernel_rfl)); have t133 := hK.new 52 0 _ 133 _ rfl rfl rfl (by kernel_rfl) (waits haft 52 (by kernel_rfl)); have tg := hK.new 44 8 _ 125 _ rfl rfl rfl (by kernel_rfl) (waits haft 44 (by kernel_rfl)); (try dsimp only at t130 t133); refine go_in (wanted_at rfl rfl rfl tg rfl) ?_; intro K hk; clear haft hK tg hLi; go_simp; exact hS.go hk rfl
                apply LinAll.cons0
                · intro g L a x hLi haft hS hK; have t125 := hK.new 44 9 _ 125 _ rfl rfl rfl (by kernel_rfl) (waits haft 44 (by kernel_rfl)); have t134 := hK.new 53 0 _ 134 _ rfl rfl rfl (by kernel_rfl) (waits haft 53 (by kernel_rfl)); (try dsimp only at t125 t134); refine go_in (wanted_all rfl) ?_; intro K hk; clear haft hK hLi; go_simp; exact hS.go hk rfl
                refine LinAll.nil fun g x hS => ?_
                subst ha0
                simp only [Act.put, List.setIfInBounds_toArray, List.set_cons_zero, List.set_cons_succ]
                clear o15 o16 o18 o23 o24
                have KL := And.intro (hS.own _ (.head _)).2.get3 (And.intro (hS.own _ (.tail _ (.head _))).2.get3 (And.intro (hS.own _ (.tail _ (.tail _ (.head _)))).2.get3 (hS.own _ (.tail _ (.tail _ (.tail _ (.head _))))).2.get3))
                have hBq := hS.below
                have hBs := hBq.size
                clear hS
                go_wp2_with fail
                go_meet
                case rel =>
                  refine ⟨rfl, ⟨?_, ?_, ?_, ?_, ?_, ?_, ?_, ?_, ?_, ?_, ?_, ?_⟩, hBq⟩
                  all_goals simp [KL]
              case rest =>
                clear KF1 hbl1 hbs1 H31r H32r H31 H8 H37
                obtain ⟨rfl, KF1, hbl1⟩ := hcut
                have hbs1 := hbl1.size
                go_upto_region 15 with fail
                go_cut [150] from 136 to 150 (fun v150 X => v150 = .bool false ∧ (X.cell? ⟨w4.heap.size, 0, none⟩ = some (.int .i64 W) ∧ X.cell? ⟨w4.heap.size, 1, none⟩ = some (.int .u64 (LO (n))) ∧ X.cell? ⟨w4.heap.size, 2, none⟩ = some (.int .u64 (HI (n))) ∧ X.cell? ⟨w4.heap.size + 1, 0, none⟩ = some (.int .i64 W) ∧ X.cell? ⟨w4.heap.size + 1, 1, none⟩ = some (.int .u64 (LO (m))) ∧ X.cell? ⟨w4.heap.size + 1, 2, none⟩ = some (.int .u64 (HI (m))) ∧ X.cell? ⟨w4.heap.size + 1 + 1, 0, none⟩ = some (.int .i64 W) ∧ X.cell? ⟨w4.heap.size + 1 + 1, 1, none⟩ = some (.int .u64 (LO (k))) ∧ X.cell? ⟨w4.heap.size + 1 + 1, 2, none⟩ = some (.int .u64 (HI (k))) ∧ X.cell? ⟨w5.heap.size, 0, none⟩ = some (.int .i64 0) ∧ X.cell? ⟨w5.heap.size, 1, none⟩ = some (.int .u64 (LO (b01 true))) ∧ X.cell? ⟨w5.heap.size, 2, none⟩ = some (.int .u64 (HI (b01 true)))) ∧ Below w.heap.size w X)
                case first =>
                  by_cases hu : m ≤ k
                  · skip
                    have HL1 : Hid (∀ wx, Calls Try.prog 34 #[.int .i64 30, .agg #[.int .i64 W, .int .u64 (LO (m)), .int .u64 (HI (m))], .agg #[.int .i64 W, .int .u64 (LO (k)), .int .u64 (HI (k))]] wx fun e w' => e = .returned (.agg #[.int .i64 0, .int .u64 (LO (b01 true)), .int .u64 (HI (b01 true))]) ∧ Below wx.heap.size wx w') := fun wx => by
                      have h := do_cmp (k := 1) (op := 30) rfl (by decide) (Wd.mk' h1 h2 hm) (Wd.mk' h1 h2 hk) wx
                      rw [show cmpv 1 W m k = true by simp [cmpv, ltB]; omega] at h
                      exact h
                    have HL2 : Hid (∀ wx, Calls Try.prog 34 #[.int .i64 30, .agg #[.int .i64 W, .int .u64 (LO (n)), .int .u64 (HI (n))], .agg #[.int .i64 W, .int .u64 (LO (k)), .int .u64 (HI (k))]] wx fun e w' => e = .returned (.agg #[.int .i64 0, .int .u64 (LO (b01 true)), .int .u64 (HI (b01 true))]) ∧ Below wx.heap.size wx w') := fun wx => by
                      have h := do_cmp (k := 1) (op := 30) rfl (by decide) (Wd.mk' h1 h2 hn) (Wd.mk' h1 h2 hk) wx
                      rw [show cmpv 1 W n k = true by simp [cmpv, ltB]; omega] at h
                      exact h
                    refine wp_named fun a0 ha0 => ?_
                    have o15 := old_at ha0 (t := 15) rfl
                    have o16 := old_at ha0 (t := 16) rfl
                    have o17 := old_at ha0 (t := 17) rfl
                    have o18 := old_at ha0 (t := 18) rfl
                    have o24 := old_at ha0 (t := 24) rfl
                    refine wp_region_lin (S := SS w wc.heap.size [(w4.heap.size, [.int .i64 W, .int .u64 (LO (n)), .int .u64 (HI (n))]), (w4.heap.size + 1, [.int .i64 W, .int .u64 (LO (m)), .int .u64 (HI (m))]), (w4.heap.size + 1 + 1, [.int .i64 W, .int .u64 (LO (k)), .int .u64 (HI (k))]), (w5.heap.size, [.int .i64 0, .int .u64 (LO (b01 true)), .int .u64 (HI (b01 true))])] []) [] (fun _ => 0) (by kernel_rfl) (by kernel_rfl) (by rw [← ha0]; kernel_rfl) (SS.start (by first | assumption | go_grown) ?_) ?_
                    · intro p hp; simp only [List.mem_cons, List.not_mem_nil, or_false] at hp; rcases hp with rfl | rfl | rfl | rfl; all_goals exact ⟨At.three (by simp [KF1]) (by simp [KF1]) (by simp [KF1]), by simp⟩
                    apply LinAll.cons0
                    · intro g L a x hLi haft hS hK; have t24 := (hK.old 24 (by kernel_rfl)).trans o24; (try dsimp only at t24); refine go_in (wanted_all rfl) ?_; intro K hk; clear haft hK hLi; go_simp; exact hS.go hk rfl
                    apply LinAll.cons0
                    · intro g L a x hLi haft hS hK; have t136 := hK.new 0 0 _ 136 _ rfl rfl rfl (by kernel_rfl) (waits haft 0 (by kernel_rfl)); (try dsimp only at t136); refine go_in (wanted_all rfl) ?_; intro K hk; clear haft hK hLi; go_simp; exact hS.go hk rfl
                    apply LinAll.cons0
                    · intro g L a x hLi haft hS hK; have t16 := (hK.old 16 (by kernel_rfl)).trans o16; have tg := hK.new 1 0 _ 137 _ rfl rfl rfl (by kernel_rfl) (waits haft 1 (by kernel_rfl)); (try dsimp only at t16); refine go_in (wanted_at rfl rfl rfl tg rfl) ?_; intro K hk; obtain ⟨c0, c1, c2⟩ := (hS.own _ (.tail _ (.head _))).2.get3; clear haft hK tg hLi; go_simp; exact hS.go hk rfl
                    apply LinAll.cons0
                    · intro g L a x hLi haft hS hK; have t17 := (hK.old 17 (by kernel_rfl)).trans o17; have tg := hK.new 1 1 _ 137 _ rfl rfl rfl (by kernel_rfl) (waits haft 1 (by kernel_rfl)); (try dsimp only at t17); refine go_in (wanted_at rfl rfl rfl tg rfl) ?_; intro K hk; obtain ⟨c0, c1, c2⟩ := (hS.own _ (.tail _ (.tail _ (.head _)))).2.get3; clear haft hK tg hLi; go_simp; exact hS.go hk rfl
                    apply LinAll.cons0
                    · intro g L a x hLi haft hS hK; have t138 := hK.new 2 1 _ 138 _ rfl rfl rfl (by kernel_rfl) (waits haft 2 (by kernel_rfl)); have t139 := hK.new 3 0 _ 139 _ rfl rfl rfl (by kernel_rfl) (waits haft 3 (by kernel_rfl)); have tg := hK.new 1 2 _ 137 _ rfl rfl rfl (by kernel_rfl) (waits haft 1 (by kernel_rfl)); (try dsimp only at t138 t139); refine go_in (wanted_at rfl rfl rfl tg rfl) ?_; intro K hk; clear haft hK tg hLi; go_simp; refine (HL1.out _).mono ?_; rintro e y ⟨rfl, hb⟩; exact hS.on hk hb rfl
                    apply LinAll.cons0
                    · intro g L a x hLi haft hS hK; have t18 := (hK.old 18 (by kernel_rfl)).trans o18; have tg := hK.new 1 3 _ 137 _ rfl rfl rfl (by kernel_rfl) (waits haft 1 (by kernel_rfl)); (try dsimp only at t18); refine go_in (wanted_at rfl rfl rfl tg rfl) ?_; intro K hk; obtain ⟨c0, c1, c2⟩ := (hS.own _ (.tail _ (.tail _ (.tail _ (.head _))))).2.get3; clear haft hK tg hLi; go_simp; exact hS.go hk rfl
                    apply LinAll.cons0
                    · intro g L a x hLi haft hS hK; have t140 := hK.new 4 1 _ 140 _ rfl rfl rfl (by kernel_rfl) (waits haft 4 (by kernel_rfl)); have t141 := hK.new 5 0 _ 141 _ rfl rfl rfl (by kernel_rfl) (waits haft 5 (by kernel_rfl)); have tg := hK.new 1 4 _ 137 _ rfl rfl rfl (by kernel_rfl) (waits haft 1 (by kernel_rfl)); (try dsimp only at t140 t141); refine go_in (wanted_at rfl rfl rfl tg rfl) ?_; intro K hk; clear haft hK tg hLi; go_simp; exact hS.go hk rfl
                    apply LinAll.cons0
                    · intro g L a x hLi haft hS hK; have t137 := hK.new 1 5 _ 137 _ rfl rfl rfl (by kernel_rfl) (waits haft 1 (by kernel_rfl)); have t142 := hK.new 6 0 _ 142 _ rfl rfl rfl (by kernel_rfl) (waits haft 6 (by kernel_rfl)); (try dsimp only at t137 t142); refine go_in (wanted_all rfl) ?_; intro K hk; clear haft hK hLi; go_simp; exact hS.go hk rfl
                    apply LinAll.cons0
                    · intro g L a x hLi haft hS hK; have t143 := hK.new 7 0 _ 143 _ rfl rfl rfl (by kernel_rfl) (waits haft 7 (by kernel_rfl)); (try dsimp only at t143); refine go_in (wanted_all rfl) ?_; intro K hk; clear haft hK hLi; go_simp; exact hS.go hk rfl
                    apply LinAll.cons0
                    · intro g L a x hLi haft hS hK; have t15 := (hK.old 15 (by kernel_rfl)).trans o15; have tg := hK.new 8 0 _ 144 _ rfl rfl rfl (by kernel_rfl) (waits haft 8 (by kernel_rfl)); (try dsimp only at t15); refine go_in (wanted_at rfl rfl rfl tg rfl) ?_; intro K hk; obtain ⟨c0, c1, c2⟩ := (hS.own _ (.head _)).2.get3; clear haft hK tg hLi; go_simp; exact hS.go hk rfl
                    apply LinAll.cons0
                    · intro g L a x hLi haft hS hK; have t17 := (hK.old 17 (by kernel_rfl)).trans o17; have tg := hK.new 8 1 _ 144 _ rfl rfl rfl (by kernel_rfl) (waits haft 8 (by kernel_rfl)); (try dsimp only at t17); refine go_in (wanted_at rfl rfl rfl tg rfl) ?_; intro K hk; obtain ⟨c0, c1, c2⟩ := (hS.own _ (.tail _ (.tail _ (.head _)))).2.get3; clear haft hK tg hLi; go_simp; exact hS.go hk rfl
                    apply LinAll.cons0
                    · intro g L a x hLi haft hS hK; have t145 := hK.new 9 1 _ 145 _ rfl rfl rfl (by kernel_rfl) (waits haft 9 (by kernel_rfl)); have t146 := hK.new 10 0 _ 146 _ rfl rfl rfl (by kernel_rfl) (waits haft 10 (by kernel_rfl)); have tg := hK.new 8 2 _ 144 _ rfl rfl rfl (by kernel_rfl) (waits haft 8 (by kernel_rfl)); (try dsimp only at t145 t146); refine go_in (wanted_at rfl rfl rfl tg rfl) ?_; intro K hk; clear haft hK tg hLi; go_simp; refine (HL2.out _).mono ?_; rintro e y ⟨rfl, hb⟩; exact hS.on hk hb rfl
                    apply LinAll.cons0
                    · intro g L a x hLi haft hS hK; have t18 := (hK.old 18 (by kernel_rfl)).trans o18; have tg := hK.new 8 3 _ 144 _ rfl rfl rfl (by kernel_rfl) (waits haft 8 (by kernel_rfl)); (try dsimp only at t18); refine go_in (wanted_at rfl rfl rfl tg rfl) ?_; intro K hk; obtain ⟨c0, c1, c2⟩ := (hS.own _ (.tail _ (.tail _ (.tail _ (.head _))))).2.get3; clear haft hK tg hLi; go_simp; exact hS.go hk rfl
                    apply LinAll.cons0
                    · intro g L a x hLi haft hS hK; have t147 := hK.new 11 1 _ 147 _ rfl rfl rfl (by kernel_rfl) (waits haft 11 (by kernel_rfl)); have t148 := hK.new 12 0 _ 148 _ rfl rfl rfl (by kernel_rfl) (waits haft 12 (by kernel_rfl)); have tg := hK.new 8 4 _ 144 _ rfl rfl rfl (by kernel_rfl) (waits haft 8 (by kernel_rfl)); (try dsimp only at t147 t148); refine go_in (wanted_at rfl rfl rfl tg rfl) ?_; intro K hk; clear haft hK tg hLi; go_simp; exact hS.go hk rfl
                    apply LinAll.cons0
                    · intro g L a x hLi haft hS hK; have t144 := hK.new 8 5 _ 144 _ rfl rfl rfl (by kernel_rfl) (waits haft 8 (by kernel_rfl)); have t149 := hK.new 13 0 _ 149 _ rfl rfl rfl (by kernel_rfl) (waits haft 13 (by kernel_rfl)); (try dsimp only at t144 t149); refine go_in (wanted_all rfl) ?_; intro K hk; clear haft hK hLi; go_simp; exact hS.go hk rfl
                    refine LinAll.nil fun g x hS => ?_
                    subst ha0
                    simp only [Act.put, List.setIfInBounds_toArray, List.set_cons_zero, List.set_cons_succ]
                    clear o15 o16 o17 o18 o24
                    have KL := And.intro (hS.own _ (.head _)).2.get3 (And.intro (hS.own _ (.tail _ (.head _))).2.get3 (And.intro (hS.own _ (.tail _ (.tail _ (.head _)))).2.get3 (hS.own _ (.tail _ (.tail _ (.tail _ (.head _))))).2.get3))
                    have hBq := hS.below
                    have hBs := hBq.size
                    clear hS
                    go_wp2_with fail
                    go_meet
                    case rel =>
                      refine ⟨rfl, ⟨?_, ?_, ?_, ?_, ?_, ?_, ?_, ?_, ?_, ?_, ?_, ?_⟩, hBq⟩
                      all_goals simp [KL]
                  · skip
                    have HL1 : Hid (∀ wx, Calls Try.prog 34 #[.int .i64 30, .agg #[.int .i64 W, .int .u64 (LO (m)), .int .u64 (HI (m))], .agg #[.int .i64 W, .int .u64 (LO (k)), .int .u64 (HI (k))]] wx fun e w' => e = .returned (.agg #[.int .i64 0, .int .u64 (LO (b01 false)), .int .u64 (HI (b01 false))]) ∧ Below wx.heap.size wx w') := fun wx => by
                      have h := do_cmp (k := 1) (op := 30) rfl (by decide) (Wd.mk' h1 h2 hm) (Wd.mk' h1 h2 hk) wx
                      rw [show cmpv 1 W m k = false by simp [cmpv, ltB]; omega] at h
                      exact h
                    refine wp_named fun a0 ha0 => ?_
                    have o15 := old_at ha0 (t := 15) rfl
                    have o16 := old_at ha0 (t := 16) rfl
                    have o17 := old_at ha0 (t := 17) rfl
                    have o18 := old_at ha0 (t := 18) rfl
                    have o24 := old_at ha0 (t := 24) rfl
                    refine wp_region_lin (S := SS w wc.heap.size [(w4.heap.size, [.int .i64 W, .int .u64 (LO (n)), .int .u64 (HI (n))]), (w4.heap.size + 1, [.int .i64 W, .int .u64 (LO (m)), .int .u64 (HI (m))]), (w4.heap.size + 1 + 1, [.int .i64 W, .int .u64 (LO (k)), .int .u64 (HI (k))]), (w5.heap.size, [.int .i64 0, .int .u64 (LO (b01 true)), .int .u64 (HI (b01 true))])] []) [] (fun _ => 0) (by kernel_rfl) (by kernel_rfl) (by rw [← ha0]; kernel_rfl) (SS.start (by first | assumption | go_grown) ?_) ?_
                    · intro p hp; simp only [List.mem_cons, List.not_mem_nil, or_false] at hp; rcases hp with rfl | rfl | rfl | rfl; all_goals exact ⟨At.three (by simp [KF1]) (by simp [KF1]) (by simp [KF1]), by simp⟩
                    apply LinAll.cons0
                    · intro g L a x hLi haft hS hK; have t24 := (hK.old 24 (by kernel_rfl)).trans o24; (try dsimp only at t24); refine go_in (wanted_all rfl) ?_; intro K hk; clear haft hK hLi; go_simp; exact hS.go hk rfl
                    apply LinAll.cons0
                    · intro g L a x hLi haft hS hK; have t136 := hK.new 0 0 _ 136 _ rfl rfl rfl (by kernel_rfl) (waits haft 0 (by kernel_rfl)); (try dsimp only at t136); refine go_in (wanted_all rfl) ?_; intro K hk; clear haft hK hLi; go_simp; exact hS.go hk rfl
                    apply LinAll.cons0
                    · intro g L a x hLi haft hS hK; have t16 := (hK.old 16 (by kernel_rfl)).trans o16; have tg := hK.new 1 0 _ 137 _ rfl rfl rfl (by kernel_rfl) (waits haft 1 (by kernel_rfl)); (try dsimp only at t16); refine go_in (wanted_at rfl rfl rfl tg rfl) ?_; intro K hk; obtain ⟨c0, c1, c2⟩ := (hS.own _ (.tail _ (.head _))).2.get3; clear haft hK tg hLi; go_simp; exact hS.go hk rfl
                    apply LinAll.cons0
                    · intro g L a x hLi haft hS hK; have t17 := (hK.old 17 (by kernel_rfl)).trans o17; have tg := hK.new 1 1 _ 137 _ rfl rfl rfl (by kernel_rfl) (waits haft 1 (by kernel_rfl)); (try dsimp only at t17); refine go_in (wanted_at rfl rfl rfl tg rfl) ?_; intro K hk; obtain ⟨c0, c1, c2⟩ := (hS.own _ (.tail _ (.tail _ (.head _)))).2.get3; clear haft hK tg hLi; go_simp; exact hS.go hk rfl
                    apply LinAll.cons0
                    · intro g L a x hLi haft hS hK; have t138 := hK.new 2 1 _ 138 _ rfl rfl rfl (by kernel_rfl) (waits haft 2 (by kernel_rfl)); have t139 := hK.new 3 0 _ 139 _ rfl rfl rfl (by kernel_rfl) (waits haft 3 (by kernel_rfl)); have tg := hK.new 1 2 _ 137 _ rfl rfl rfl (by kernel_rfl) (waits haft 1 (by kernel_rfl)); (try dsimp only at t138 t139); refine go_in (wanted_at rfl rfl rfl tg rfl) ?_; intro K hk; clear haft hK tg hLi; go_simp; refine (HL1.out _).mono ?_; rintro e y ⟨rfl, hb⟩; exact hS.on hk hb rfl
                    apply LinAll.cons0
                    · intro g L a x hLi haft hS hK; have t18 := (hK.old 18 (by kernel_rfl)).trans o18; have tg := hK.new 1 3 _ 137 _ rfl rfl rfl (by kernel_rfl) (waits haft 1 (by kernel_rfl)); (try dsimp only at t18); refine go_in (wanted_at rfl rfl rfl tg rfl) ?_; intro K hk; obtain ⟨c0, c1, c2⟩ := (hS.own _ (.tail _ (.tail _ (.tail _ (.head _))))).2.get3; clear haft hK tg hLi; go_simp; exact hS.go hk rfl
                    apply LinAll.cons0
                    · intro g L a x hLi haft hS hK; have t140 := hK.new 4 1 _ 140 _ rfl rfl rfl (by kernel_rfl) (waits haft 4 (by kernel_rfl)); have t141 := hK.new 5 0 _ 141 _ rfl rfl rfl (by kernel_rfl) (waits haft 5 (by kernel_rfl)); have tg := hK.new 1 4 _ 137 _ rfl rfl rfl (by kernel_rfl) (waits haft 1 (by kernel_rfl)); (try dsimp only at t140 t141); refine go_in (wanted_at rfl rfl rfl tg rfl) ?_; intro K hk; clear haft hK tg hLi; go_simp; exact hS.go hk rfl
                    apply LinAll.cons0
                    · intro g L a x hLi haft hS hK; have t137 := hK.new 1 5 _ 137 _ rfl rfl rfl (by kernel_rfl) (waits haft 1 (by kernel_rfl)); have t142 := hK.new 6 0 _ 142 _ rfl rfl rfl (by kernel_rfl) (waits haft 6 (by kernel_rfl)); (try dsimp only at t137 t142); refine go_in (wanted_all rfl) ?_; intro K hk; clear haft hK hLi; go_simp; exact hS.go hk rfl
                    apply LinAll.cons0
                    · intro g L a x hLi haft hS hK; have t143 := hK.new 7 0 _ 143 _ rfl rfl rfl (by kernel_rfl) (waits haft 7 (by kernel_rfl)); (try dsimp only at t143); refine go_in (wanted_all rfl) ?_; intro K hk; clear haft hK hLi; go_simp; exact hS.go hk rfl
                    apply LinAll.cons0
                    · intro g L a x hLi haft hS hK; have t15 := (hK.old 15 (by kernel_rfl)).trans o15; have tg := hK.new 8 0 _ 144 _ rfl rfl rfl (by kernel_rfl) (waits haft 8 (by kernel_rfl)); (try dsimp only at t15); exact go_out (wanted_at rfl rfl rfl tg rfl) ⟨rfl, hS.same rfl⟩
                    apply LinAll.cons0
                    · intro g L a x hLi haft hS hK; have t17 := (hK.old 17 (by kernel_rfl)).trans o17; have tg := hK.new 8 1 _ 144 _ rfl rfl rfl (by kernel_rfl) (waits haft 8 (by kernel_rfl)); (try dsimp only at t17); exact go_out (wanted_at rfl rfl rfl tg rfl) ⟨rfl, hS.same rfl⟩
                    apply LinAll.cons0
                    · intro g L a x hLi haft hS hK; have t145 := hK.new 9 1 _ 145 _ rfl rfl rfl (by kernel_rfl) (waits haft 9 (by kernel_rfl)); have t146 := hK.new 10 0 _ 146 _ rfl rfl rfl (by kernel_rfl) (waits haft 10 (by kernel_rfl)); have tg := hK.new 8 2 _ 144 _ rfl rfl rfl (by kernel_rfl) (waits haft 8 (by kernel_rfl)); (try dsimp only at t145 t146); exact go_out (wanted_at rfl rfl rfl tg rfl) ⟨rfl, hS.same rfl⟩
                    apply LinAll.cons0
                    · intro g L a x hLi haft hS hK; have t18 := (hK.old 18 (by kernel_rfl)).trans o18; have tg := hK.new 8 3 _ 144 _ rfl rfl rfl (by kernel_rfl) (waits haft 8 (by kernel_rfl)); (try dsimp only at t18); exact go_out (wanted_at rfl rfl rfl tg rfl) ⟨rfl, hS.same rfl⟩
                    apply LinAll.cons0
                    · intro g L a x hLi haft hS hK; have t147 := hK.new 11 1 _ 147 _ rfl rfl rfl (by kernel_rfl) (waits haft 11 (by kernel_rfl)); have t148 := hK.new 12 0 _ 148 _ rfl rfl rfl (by kernel_rfl) (waits haft 12 (by kernel_rfl)); have tg := hK.new 8 4 _ 144 _ rfl rfl rfl (by kernel_rfl) (waits haft 8 (by kernel_rfl)); (try dsimp only at t147 t148); exact go_out (wanted_at rfl rfl rfl tg rfl) ⟨rfl, hS.same rfl⟩
                    apply LinAll.cons0
                    · intro g L a x hLi haft hS hK; have t144 := hK.new 8 5 _ 144 _ rfl rfl rfl (by kernel_rfl) (waits haft 8 (by kernel_rfl)); have t149 := hK.new 13 0 _ 149 _ rfl rfl rfl (by kernel_rfl) (waits haft 13 (by kernel_rfl)); (try dsimp only at t144 t149); refine go_in (wanted_all rfl) ?_; intro K hk; clear haft hK hLi; go_simp; exact hS.go hk rfl
                    refine LinAll.nil fun g x hS => ?_
                    subst ha0
                    simp only [Act.put, List.setIfInBounds_toArray, List.set_cons_zero, List.set_cons_succ]
                    clear o15 o16 o17 o18 o24
                    have KL := And.intro (hS.own _ (.head _)).2.get3 (And.intro (hS.own _ (.tail _ (.head _))).2.get3 (And.intro (hS.own _ (.tail _ (.tail _ (.head _)))).2.get3 (hS.own _ (.tail _ (.tail _ (.tail _ (.head _))))).2.get3))
                    have hBq := hS.below
                    have hBs := hBq.size
                    clear hS
                    go_wp2_with fail
                    go_meet
                    case rel =>
                      refine ⟨rfl, ⟨?_, ?_, ?_, ?_, ?_, ?_, ?_, ?_, ?_, ?_, ?_, ?_⟩, hBq⟩
                      all_goals simp [KL]
                case rest =>
                  clear KF1 hbl1 hbs1
                  obtain ⟨rfl, KF1, hbl1⟩ := hcut
                  have hbs1 := hbl1.size
                  go_wp2_with fail
                  go_ret
                  exact ⟨rfl, by go_grown⟩
          · skip
            have heq : eqB n m = true := by simp [eqB]; omega
            have H29 : Hid (∀ wx, Calls Try.prog 34 #[.int .i64 29, .agg #[.int .i64 W, .int .u64 (LO (n)), .int .u64 (HI (n))], .agg #[.int .i64 W, .int .u64 (LO (m)), .int .u64 (HI (m))]] wx fun e w' => e = .returned (.agg #[.int .i64 0, .int .u64 (LO (b01 false)), .int .u64 (HI (b01 false))]) ∧ Below wx.heap.size wx w') := fun wx => by
              have h := do_cmp (k := 0) (op := 29) rfl (by decide) (Wd.mk' h1 h2 hn) (Wd.mk' h1 h2 hm) wx
              rw [show cmpv 0 W n m = false by simp [cmpv, ltB]; omega] at h
              exact h
            have H30 : Hid (∀ wx, Calls Try.prog 34 #[.int .i64 30, .agg #[.int .i64 W, .int .u64 (LO (n)), .int .u64 (HI (n))], .agg #[.int .i64 W, .int .u64 (LO (m)), .int .u64 (HI (m))]] wx fun e w' => e = .returned (.agg #[.int .i64 0, .int .u64 (LO (b01 true)), .int .u64 (HI (b01 true))]) ∧ Below wx.heap.size wx w') := fun wx => by
              have h := do_cmp (k := 1) (op := 30) rfl (by decide) (Wd.mk' h1 h2 hn) (Wd.mk' h1 h2 hm) wx
              rw [show cmpv 1 W n m = true by simp [cmpv, ltB]; omega] at h
              exact h
            have H31r : Hid (∀ wx, Calls Try.prog 34 #[.int .i64 31, .agg #[.int .i64 W, .int .u64 (LO (m)), .int .u64 (HI (m))], .agg #[.int .i64 W, .int .u64 (LO (n)), .int .u64 (HI (n))]] wx fun e w' => e = .returned (.agg #[.int .i64 0, .int .u64 (LO (b01 false)), .int .u64 (HI (b01 false))]) ∧ Below wx.heap.size wx w') := fun wx => by
              have h := do_cmp (k := 2) (op := 31) rfl (by decide) (Wd.mk' h1 h2 hm) (Wd.mk' h1 h2 hn) wx
              rw [show cmpv 2 W m n = false by simp [cmpv, ltB]; omega] at h
              exact h
            have H32r : Hid (∀ wx, Calls Try.prog 34 #[.int .i64 32, .agg #[.int .i64 W, .int .u64 (LO (m)), .int .u64 (HI (m))], .agg #[.int .i64 W, .int .u64 (LO (n)), .int .u64 (HI (n))]] wx fun e w' => e = .returned (.agg #[.int .i64 0, .int .u64 (LO (b01 true)), .int .u64 (HI (b01 true))]) ∧ Below wx.heap.size wx w') := fun wx => by
              have h := do_cmp (k := 3) (op := 32) rfl (by decide) (Wd.mk' h1 h2 hm) (Wd.mk' h1 h2 hn) wx
              rw [show cmpv 3 W m n = true by simp [cmpv, ltB]; omega] at h
              exact h
            have H31 : Hid (∀ wx, Calls Try.prog 34 #[.int .i64 31, .agg #[.int .i64 W, .int .u64 (LO (n)), .int .u64 (HI (n))], .agg #[.int .i64 W, .int .u64 (LO (m)), .int .u64 (HI (m))]] wx fun e w' => e = .returned (.agg #[.int .i64 0, .int .u64 (LO (b01 false)), .int .u64 (HI (b01 false))]) ∧ Below wx.heap.size wx w') := fun wx => by
              have h := do_cmp (k := 2) (op := 31) rfl (by decide) (Wd.mk' h1 h2 hn) (Wd.mk' h1 h2 hm) wx
              rw [show cmpv 2 W n m = false by simp [cmpv, ltB]; omega] at h
              exact h
            have H8 : Hid (∀ wx, Calls Try.prog 34 #[.int .i64 8, .agg #[.int .i64 W, .int .u64 (LO (n)), .int .u64 (HI (n))], .agg #[.int .i64 W, .int .u64 (LO (m)), .int .u64 (HI (m))]] wx fun e w' => e = .returned (.agg #[.int .i64 0, .int .u64 (LO (b01 true)), .int .u64 (HI (b01 true))]) ∧ Below wx.heap.size wx w') := fun wx => do_eq heq (Wd.mk' h1 h2 hn) (Wd.mk' h1 h2 hm) wx
            have H37 : Hid (∀ wx, Calls Try.prog 34 #[.int .i64 37, .agg #[.int .i64 W, .int .u64 (LO (n)), .int .u64 (HI (n))], .agg #[.int .i64 W, .int .u64 (LO (m)), .int .u64 (HI (m))]] wx fun e w' => e = .returned (.agg #[.int .i64 1, .int .u64 1, .int .u64 0]) ∧ Below wx.heap.size wx w') := fun wx => do_comp heq (Wd.mk' h1 h2 hn) (Wd.mk' h1 h2 hm) wx
            have hmk : n ≤ m := by omega
            clear ht
            go_upto_region 12 with fail
            go_cut [23, 24] from 71 to 80 (fun v23 v24 X => v23 = .bool false ∧ v24 = .bool true ∧ (X.cell? ⟨w4.heap.size, 0, none⟩ = some (.int .i64 W) ∧ X.cell? ⟨w4.heap.size, 1, none⟩ = some (.int .u64 (LO (n))) ∧ X.cell? ⟨w4.heap.size, 2, none⟩ = some (.int .u64 (HI (n))) ∧ X.cell? ⟨w4.heap.size + 1, 0, none⟩ = some (.int .i64 W) ∧ X.cell? ⟨w4.heap.size + 1, 1, none⟩ = some (.int .u64 (LO (m))) ∧ X.cell? ⟨w4.heap.size + 1, 2, none⟩ = some (.int .u64 (HI (m))) ∧ X.cell? ⟨w4.heap.size + 1 + 1, 0, none⟩ = some (.int .i64 W) ∧ X.cell? ⟨w4.heap.size + 1 + 1, 1, none⟩ = some (.int .u64 (LO (k))) ∧ X.cell? ⟨w4.heap.size + 1 + 1, 2, none⟩ = some (.int .u64 (HI (k))) ∧ X.cell? ⟨w5.heap.size, 0, none⟩ = some (.int .i64 0) ∧ X.cell? ⟨w5.heap.size, 1, none⟩ = some (.int .u64 (LO (b01 true))) ∧ X.cell? ⟨w5.heap.size, 2, none⟩ = some (.int .u64 (HI (b01 true)))) ∧ Below w.heap.size w X)
            case first =>
              refine wp_named fun a0 ha0 => ?_
              have o15 := old_at ha0 (t := 15) rfl
              have o16 := old_at ha0 (t := 16) rfl
              have o18 := old_at ha0 (t := 18) rfl
              refine wp_region_lin (S := SS w wr.heap.size [(w4.heap.size, [.int .i64 W, .int .u64 (LO (n)), .int .u64 (HI (n))]), (w4.heap.size + 1, [.int .i64 W, .int .u64 (LO (m)), .int .u64 (HI (m))]), (w4.heap.size + 1 + 1, [.int .i64 W, .int .u64 (LO (k)), .int .u64 (HI (k))]), (w5.heap.size, [.int .i64 0, .int .u64 (LO (b01 true)), .int .u64 (HI (b01 true))])] []) [] (fun _ => 0) (by kernel_rfl) (by kernel_rfl) (by rw [← ha0]; kernel_rfl) (SS.start (by first | assumption | go_grown) ?_) ?_
              · intro p hp; simp only [List.mem_cons, List.not_mem_nil, or_false] at hp; rcases hp with rfl | rfl | rfl | rfl; all_goals exact ⟨At.three (by simp [KF1]) (by simp [KF1]) (by simp [KF1]), by simp⟩
              apply LinAll.cons0
              · intro g L a x hLi haft hS hK; have t15 := (hK.old 15 (by kernel_rfl)).trans o15; (try dsimp only at t15); refine go_in (wanted_all rfl) ?_; intro K hk; obtain ⟨c0, c1, c2⟩ := (hS.own _ (.head _)).2.get3; clear haft hK hLi; go_simp; exact hS.go hk rfl
              apply LinAll.cons0
              · intro g L a x hLi haft hS hK; have t16 := (hK.old 16 (by kernel_rfl)).trans o16; (try dsimp only at t16); refine go_in (wanted_all rfl) ?_; intro K hk; obtain ⟨c0, c1, c2⟩ := (hS.own _ (.tail _ (.head _))).2.get3; clear haft hK hLi; go_simp; exact hS.go hk rfl
              apply LinAll.cons0
              · intro g L a x hLi haft hS hK; have t71 := hK.new 0 1 _ 71 _ rfl rfl rfl (by kernel_rfl) (waits haft 0 (by kernel_rfl)); have t72 := hK.new 1 0 _ 72 _ rfl rfl rfl (by kernel_rfl) (waits haft 1 (by kernel_rfl)); (try dsimp only at t71 t72); refine go_in (wanted_all rfl) ?_; intro K hk; clear haft hK hLi; go_simp; refine (H29.out _).mono ?_; rintro e y ⟨rfl, hb⟩; exact hS.on hk hb rfl
              apply LinAll.cons0
              · intro g L a x hLi haft hS hK; have t18 := (hK.old 18 (by kernel_rfl)).trans o18; (try dsimp only at t18); refine go_in (wanted_all rfl) ?_; intro K hk; obtain ⟨c0, c1, c2⟩ := (hS.own _ (.tail _ (.tail _ (.tail _ (.head _))))).2.get3; clear haft hK hLi; go_simp; exact hS.go hk rfl
              apply LinAll.cons0
              · intro g L a x hLi haft hS hK; have t73 := hK.new 2 1 _ 73 _ rfl rfl rfl (by kernel_rfl) (waits haft 2 (by kernel_rfl)); have t74 := hK.new 3 0 _ 74 _ rfl rfl rfl (by kernel_rfl) (waits haft 3 (by kernel_rfl)); (try dsimp only at t73 t74); refine go_in (wanted_all rfl) ?_; intro K hk; clear haft hK hLi; go_simp; exact hS.go hk rfl
              apply LinAll.cons0
              · intro g L a x hLi haft hS hK; have t15 := (hK.old 15 (by kernel_rfl)).trans o15; (try dsimp only at t15); refine go_in (wanted_all rfl) ?_; intro K hk; obtain ⟨c0, c1, c2⟩ := (hS.own _ (.head _)).2.get3; clear haft hK hLi; go_simp; exact hS.go hk rfl
              apply LinAll.cons0
              · intro g L a x hLi haft hS hK; have t16 := (hK.old 16 (by kernel_rfl)).trans o16; (try dsimp only at t16); refine go_in (wanted_all rfl) ?_; intro K hk; obtain ⟨c0, c1, c2⟩ := (hS.own _ (.tail _ (.head _))).2.get3; clear haft hK hLi; go_simp; exact hS.go hk rfl
              apply LinAll.cons0
              · intro g L a x hLi haft hS hK; have t76 := hK.new 5 1 _ 76 _ rfl rfl rfl (by kernel_rfl) (waits haft 5 (by kernel_rfl)); have t77 := hK.new 6 0 _ 77 _ rfl rfl rfl (by kernel_rfl) (waits haft 6 (by kernel_rfl)); (try dsimp only at t76 t77); refine go_in (wanted_all rfl) ?_; intro K hk; clear haft hK hLi; go_simp; refine (H30.out _).mono ?_; rintro e y ⟨rfl, hb⟩; exact hS.on hk hb rfl
              apply LinAll.cons0
              · intro g L a x hLi haft hS hK; have t18 := (hK.old 18 (by kernel_rfl)).trans o18; (try dsimp only at t18); refine go_in (wanted_all rfl) ?_; intro K hk; obtain ⟨c0, c1, c2⟩ := (hS.own _ (.tail _ (.tail _ (.tail _ (.head _))))).2.get3; clear haft hK hLi; go_simp; exact hS.go hk rfl
              apply LinAll.cons0
              · intro g L a x hLi haft hS hK; have t78 := hK.new 7 1 _ 78 _ rfl rfl rfl (by kernel_rfl) (waits haft 7 (by kernel_rfl)); have t79 := hK.new 8 0 _ 79 _ rfl rfl rfl (by kernel_rfl) (waits haft 8 (by kernel_rfl)); (try dsimp only at t78 t79); refine go_in (wanted_all rfl) ?_; intro K hk; clear haft hK hLi; go_simp; exact hS.go hk rfl
              apply LinAll.cons0
              · intro g L a x hLi haft hS hK; have t75 := hK.new 4 5 _ 75 _ rfl rfl rfl (by kernel_rfl) (waits haft 4 (by kernel_rfl)); (try dsimp only at t75); refine go_in (wanted_all rfl) ?_; intro K hk; clear haft hK hLi; go_simp; exact hS.go hk rfl
              apply LinAll.cons0
              · intro g L a x hLi haft hS hK; have t80 := hK.new 9 1 _ 80 _ rfl rfl rfl (by kernel_rfl) (waits haft 9 (by kernel_rfl)); (try dsimp only at t80); refine go_in (wanted_all rfl) ?_; intro K hk; clear haft hK hLi; go_simp; exact hS.go hk rfl
              refine LinAll.nil fun g x hS => ?_
              subst ha0
              simp only [Act.put, List.setIfInBounds_toArray, List.set_cons_zero, List.set_cons_succ]
              clear o15 o16 o18
              have KL := And.intro (hS.own _ (.head _)).2.get3 (And.intro (hS.own _ (.tail _ (.head _))).2.get3 (And.intro (hS.own _ (.tail _ (.tail _ (.head _)))).2.get3 (hS.own _ (.tail _ (.tail _ (.tail _ (.head _))))).2.get3))
              have hBq := hS.below
              have hBs := hBq.size
              clear hS
              go_wp2_with fail
              go_meet
              case rel =>
                refine ⟨rfl, rfl, ⟨?_, ?_, ?_, ?_, ?_, ?_, ?_, ?_, ?_, ?_, ?_, ?_⟩, hBq⟩
                all_goals simp [KL]
            case rest =>
              clear KF1 hbl1 hbs1 H29 H30
              obtain ⟨rfl, rfl, KF1, hbl1⟩ := hcut
              have hbs1 := hbl1.size
              go_upto_region 13 with fail
              go_cut [135] from 81 to 135 (fun v135 X => v135 = .bool false ∧ (X.cell? ⟨w4.heap.size, 0, none⟩ = some (.int .i64 W) ∧ X.cell? ⟨w4.heap.size, 1, none⟩ = some (.int .u64 (LO (n))) ∧ X.cell? ⟨w4.heap.size, 2, none⟩ = some (.int .u64 (HI (n))) ∧ X.cell? ⟨w4.heap.size + 1, 0, none⟩ = some (.int .i64 W) ∧ X.cell? ⟨w4.heap.size + 1, 1, none⟩ = some (.int .u64 (LO (m))) ∧ X.cell? ⟨w4.heap.size + 1, 2, none⟩ = some (.int .u64 (HI (m))) ∧ X.cell? ⟨w4.heap.size + 1 + 1, 0, none⟩ = some (.int .i64 W) ∧ X.cell? ⟨w4.heap.size + 1 + 1, 1, none⟩ = some (.int .u64 (LO (k))) ∧ X.cell? ⟨w4.heap.size + 1 + 1, 2, none⟩ = some (.int .u64 (HI (k))) ∧ X.cell? ⟨w5.heap.size, 0, none⟩ = some (.int .i64 0) ∧ X.cell? ⟨w5.heap.size, 1, none⟩ = some (.int .u64 (LO (b01 true))) ∧ X.cell? ⟨w5.heap.size, 2, none⟩ = some (.int .u64 (HI (b01 true)))) ∧ Below w.heap.size w X)
              case first =>
                refine wp_named fun a0 ha0 => ?_
                have o15 := old_at ha0 (t := 15) rfl
                have o16 := old_at ha0 (t := 16) rfl
                have o18 := old_at ha0 (t := 18) rfl
                have o23 := old_at ha0 (t := 23) rfl
                have o24 := old_at ha0 (t := 24) rfl
                refine wp_region_lin (S := SS w wc.heap.size [(w4.heap.size, [.int .i64 W, .int .u64 (LO (n)), .int .u64 (HI (n))]), (w4.heap.size + 1, [.int .i64 W, .int .u64 (LO (m)), .int .u64 (HI (m))]), (w4.heap.size + 1 + 1, [.int .i64 W, .int .u64 (LO (k)), .int .u64 (HI (k))]), (w5.heap.size, [.int .i64 0, .int .u64 (LO (b01 true)), .int .u64 (HI (b01 true))])] []) [] (fun _ => 0) (by kernel_rfl) (by kernel_rfl) (by rw [← ha0]; kernel_rfl) (SS.start (by first | assumption | go_grown) ?_) ?_
                · intro p hp; simp only [List.mem_cons, List.not_mem_nil, or_false] at hp; rcases hp with rfl | rfl | rfl | rfl; all_goals exact ⟨At.three (by simp [KF1]) (by simp [KF1]) (by simp [KF1]), by simp⟩
                apply LinAll.cons0
                · intro g L a x hLi haft hS hK; have t23 := (hK.old 23 (by kernel_rfl)).trans o23; (try dsimp only at t23); refine go_in (wanted_all rfl) ?_; intro K hk; clear haft hK hLi; go_simp; exact hS.go hk rfl
                apply LinAll.cons0
                · intro g L a x hLi haft hS hK; have t81 := hK.new 0 0 _ 81 _ rfl rfl rfl (by kernel_rfl) (waits haft 0 (by kernel_rfl)); (try dsimp only at t81); refine go_in (wanted_all rfl) ?_; intro K hk; clear haft hK hLi; go_simp; exact hS.go hk rfl
                apply LinAll.cons0
                · intro g L a x hLi haft hS hK; have t24 := (hK.old 24 (by kernel_rfl)).trans o24; have tg := hK.new 1 0 _ 82 _ rfl rfl rfl (by kernel_rfl) (waits haft 1 (by kernel_rfl)); (try dsimp only at t24); exact go_out (wanted_at rfl rfl rfl tg rfl) ⟨rfl, hS.same rfl⟩
                apply LinAll.cons0
                · intro g L a x hLi haft hS hK; have t23 := (hK.old 23 (by kernel_rfl)).trans o23; have tg := hK.new 1 1 _ 82 _ rfl rfl rfl (by kernel_rfl) (waits haft 1 (by kernel_rfl)); (try dsimp only at t23); exact go_out (wanted_at rfl rfl rfl tg rfl) ⟨rfl, hS.same rfl⟩
                apply LinAll.cons0
                · intro g L a x hLi haft hS hK; have t83 := hK.new 2 1 _ 83 _ rfl rfl rfl (by kernel_rfl) (waits haft 2 (by kernel_rfl)); have t84 := hK.new 3 0 _ 84 _ rfl rfl rfl (by kernel_rfl) (waits haft 3 (by kernel_rfl)); have tg := hK.new 1 2 _ 82 _ rfl rfl rfl (by kernel_rfl) (waits haft 1 (by kernel_rfl)); (try dsimp only at t83 t84); exact go_out (wanted_at rfl rfl rfl tg rfl) ⟨rfl, hS.same rfl⟩
                apply LinAll.cons0
                · intro g L a x hLi haft hS hK; have t82 := hK.new 1 3 _ 82 _ rfl rfl rfl (by kernel_rfl) (waits haft 1 (by kernel_rfl)); have t85 := hK.new 4 0 _ 85 _ rfl rfl rfl (by kernel_rfl) (waits haft 4 (by kernel_rfl)); (try dsimp only at t82 t85); refine go_in (wanted_all rfl) ?_; intro K hk; clear haft hK hLi; go_simp; exact hS.go hk rfl
                apply LinAll.cons0
                · intro g L a x hLi haft hS hK; have t86 := hK.new 5 0 _ 86 _ rfl rfl rfl (by kernel_rfl) (waits haft 5 (by kernel_rfl)); (try dsimp only at t86); refine go_in (wanted_all rfl) ?_; intro K hk; clear haft hK hLi; go_simp; exact hS.go hk rfl
                apply LinAll.cons0
                · intro g L a x hLi haft hS hK; have t23 := (hK.old 23 (by kernel_rfl)).trans o23; have tg := hK.new 6 0 _ 87 _ rfl rfl rfl (by kernel_rfl) (waits haft 6 (by kernel_rfl)); (try dsimp only at t23); refine go_in (wanted_at rfl rfl rfl tg rfl) ?_; intro K hk; clear haft hK tg hLi; go_simp; exact hS.go hk rfl
                apply LinAll.cons0
                · intro g L a x hLi haft hS hK; have t16 := (hK.old 16 (by kernel_rfl)).trans o16; have tg := hK.new 6 1 _ 87 _ rfl rfl rfl (by kernel_rfl) (waits haft 6 (by kernel_rfl)); (try dsimp only at t16); refine go_in (wanted_at rfl rfl rfl tg rfl) ?_; intro K hk; obtain ⟨c0, c1, c2⟩ := (hS.own _ (.tail _ (.head _))).2.get3; clear haft hK tg hLi; go_simp; exact hS.go hk rfl
                apply LinAll.cons0
                · intro g L a x hLi haft hS hK; have t15 := (hK.old 15 (by kernel_rfl)).trans o15; have tg := hK.new 6 2 _ 87 _ rfl rfl rfl (by kernel_rfl) (waits haft 6 (by kernel_rfl)); (try dsimp only at t15); refine go_in (wanted_at rfl rfl rfl tg rfl) ?_; intro K hk; obtain ⟨c0, c1, c2⟩ := (hS.own _ (.head _)).2.get3; clear haft hK tg hLi; go_simp; exact hS.go hk rfl
                apply LinAll.cons0
                · intro g L a x hLi haft hS hK; have t89 := hK.new 8 1 _ 89 _ rfl rfl rfl (by kernel_rfl) (waits haft 8 (by kernel_rfl)); have t90 := hK.new 9 0 _ 90 _ rfl rfl rfl (by kernel_rfl) (waits haft 9 (by kernel_rfl)); have tg := hK.new 6 3 _ 87 _ rfl rfl rfl (by kernel_rfl) (waits haft 6 (by kernel_rfl)); (try dsimp only at t89 t90); refine go_in (wanted_at rfl rfl rfl tg rfl) ?_; intro K hk; clear haft hK tg hLi; go_simp; refine (H31r.out _).mono ?_; rintro e y ⟨rfl, hb⟩; exact hS.on hk hb rfl
                apply LinAll.cons0
                · intro g L a x hLi haft hS hK; have t18 := (hK.old 18 (by kernel_rfl)).trans o18; have tg := hK.new 6 4 _ 87 _ rfl rfl rfl (by kernel_rfl) (waits haft 6 (by kernel_rfl)); (try dsimp only at t18); refine go_in (wanted_at rfl rfl rfl tg rfl) ?_; intro K hk; obtain ⟨c0, c1, c2⟩ := (hS.own _ (.tail _ (.tail _ (.tail _ (.head _))))).2.get3; clear haft hK tg hLi; go_simp; exact hS.go hk rfl
                apply LinAll.cons0
                · intro g L a x hLi haft hS hK; have t91 := hK.new 10 1 _ 91 _ rfl rfl rfl (by kernel_rfl) (waits haft 10 (by kernel_rfl)); have t92 := hK.new 11 0 _ 92 _ rfl rfl rfl (by kernel_rfl) (waits haft 11 (by kernel_rfl)); have tg := hK.new 6 5 _ 87 _ rfl rfl rfl (by kernel_rfl) (waits haft 6 (by kernel_rfl)); (try dsimp only at t91 t92); refine go_in (wanted_at rfl rfl rfl tg rfl) ?_; intro K hk; clear haft hK tg hLi; go_simp; exact hS.go hk rfl
                apply LinAll.cons0
                · intro g L a x hLi haft hS hK; have t88 := hK.new 7 5 _ 88 _ rfl rfl rfl (by kernel_rfl) (waits haft 7 (by kernel_rfl)); have t93 := hK.new 12 0 _ 93 _ rfl rfl rfl (by kernel_rfl) (waits haft 12 (by kernel_rfl)); have tg := hK.new 6 6 _ 87 _ rfl rfl rfl (by kernel_rfl) (waits haft 6 (by kernel_rfl)); (try dsimp only at t88 t93); refine go_in (wanted_at rfl rfl rfl tg rfl) ?_; intro K hk; clear haft hK tg hLi; go_simp; exact hS.go hk rfl
                apply LinAll.cons0
                · intro g L a x hLi haft hS hK; have t87 := hK.new 6 7 _ 87 _ rfl rfl rfl (by kernel_rfl) (waits haft 6 (by kernel_rfl)); have t94 := hK.new 13 0 _ 94 _ rfl rfl rfl (by kernel_rfl) (waits haft 13 (by kernel_rfl)); (try dsimp only at t87 t94); refine go_in (wanted_all rfl) ?_; intro K hk; clear haft hK hLi; go_simp; exact hS.go hk rfl
                apply LinAll.cons0
                · intro g L a x hLi haft hS hK; have t95 := hK.new 14 0 _ 95 _ rfl rfl rfl (by kernel_rfl) (waits haft 14 (by kernel_rfl)); (try dsimp only at t95); refine go_in (wanted_all rfl) ?_; intro K hk; clear haft hK hLi; go_simp; exact hS.go hk rfl
                apply LinAll.cons0
                · intro g L a x hLi haft hS hK; have t24 := (hK.old 24 (by kernel_rfl)).trans o24; have tg := hK.new 15 0 _ 96 _ rfl rfl rfl (by kernel_rfl) (waits haft 15 (by kernel_rfl)); (try dsimp only at t24); refine go_in (wanted_at rfl rfl rfl tg rfl) ?_; intro K hk; clear haft hK tg hLi; go_simp; exact hS.go hk rfl
                apply LinAll.cons0
                · intro g L a x hLi haft hS hK; have t16 := (hK.old 16 (by kernel_rfl)).trans o16; have tg := hK.new 15 1 _ 96 _ rfl rfl rfl (by kernel_rfl) (waits haft 15 (by kernel_rfl)); (try dsimp only at t16); refine go_in (wanted_at rfl rfl rfl tg rfl) ?_; intro K hk; obtain ⟨c0, c1, c2⟩ := (hS.own _ (.tail _ (.head _))).2.get3; clear haft hK tg hLi; go_simp; exact hS.go hk rfl
                apply LinAll.cons0
                · intro g L a x hLi haft hS hK; have t15 := (hK.old 15 (by kernel_rfl)).trans o15; have tg := hK.new 15 2 _ 96 _ rfl rfl rfl (by kernel_rfl) (waits haft 15 (by kernel_rfl)); (try dsimp only at t15); refine go_in (wanted_at rfl rfl rfl tg rfl) ?_; intro K hk; obtain ⟨c0, c1, c2⟩ := (hS.own _ (.head _)).2.get3; clear haft hK tg hLi; go_simp; exact hS.go hk rfl
                apply LinAll.cons0
                · intro g L a x hLi haft hS hK; have t98 := hK.new 17 1 _ 98 _ rfl rfl rfl (by kernel_rfl) (waits haft 17 (by kernel_rfl)); have t99 := hK.new 18 0 _ 99 _ rfl rfl rfl (by kernel_rfl) (waits haft 18 (by kernel_rfl)); have tg := hK.new 15 3 _ 96 _ rfl rfl rfl (by kernel_rfl) (waits haft 15 (by kernel_rfl)); (try dsimp only at t98 t99); refine go_in (wanted_at rfl rfl rfl tg rfl) ?_; intro K hk; clear haft hK tg hLi; go_simp; refine (H32r.out _).mono ?_; rintro e y ⟨rfl, hb⟩; exact hS.on hk hb rfl
                apply LinAll.cons0
                · intro g L a x hLi haft hS hK; have t18 := (hK.old 18 (by kernel_rfl)).trans o18; have tg := hK.new 15 4 _ 96 _ rfl rfl rfl (by kernel_rfl) (waits haft 15 (by kernel_rfl)); (try dsimp only at t18); refine go_in (wanted_at rfl rfl rfl tg rfl) ?_; intro K hk; obtain ⟨c0, c1, c2⟩ := (hS.own _ (.tail _ (.tail _ (.tail _ (.head _))))).2.get3; clear haft hK tg hLi; go_simp; exact hS.go hk rfl
                apply LinAll.cons0
                · intro g L a x hLi haft hS hK; have t100 := hK.new 19 1 _ 100 _ rfl rfl rfl (by kernel_rfl) (waits haft 19 (by kernel_rfl)); have t101 := hK.new 20 0 _ 101 _ rfl rfl rfl (by kernel_rfl) (waits haft 20 (by kernel_rfl)); have tg := hK.new 15 5 _ 96 _ rfl rfl rfl (by kernel_rfl) (waits haft 15 (by kernel_rfl)); (try dsimp only at t100 t101); refine go_in (wanted_at rfl rfl rfl tg rfl) ?_; intro K hk; clear haft hK tg hLi; go_simp; exact hS.go hk rfl
                apply LinAll.cons0
                · intro g L a x hLi haft hS hK; have t97 := hK.new 16 5 _ 97 _ rfl rfl rfl (by kernel_rfl) (waits haft 16 (by kernel_rfl)); have t102 := hK.new 21 0 _ 102 _ rfl rfl rfl (by kernel_rfl) (waits haft 21 (by kernel_rfl)); have tg := hK.new 15 6 _ 96 _ rfl rfl rfl (by kernel_rfl) (waits haft 15 (by kernel_rfl)); (try dsimp only at t97 t102); refine go_in (wanted_at rfl rfl rfl tg rfl) ?_; intro K hk; clear haft hK tg hLi; go_simp; exact hS.go hk rfl
                apply LinAll.cons0
                · intro g L a x hLi haft hS hK; have t96 := hK.new 15 7 _ 96 _ rfl rfl rfl (by kernel_rfl) (waits haft 15 (by kernel_rfl)); have t103 := hK.new 22 0 _ 103 _ rfl rfl rfl (by kernel_rfl) (waits haft 22 (by kernel_rfl)); (try dsimp only at t96 t103); refine go_in (wanted_all rfl) ?_; intro K hk; clear haft hK hLi; go_simp; exact hS.go hk rfl
                apply LinAll.cons0
                · intro g L a x hLi haft hS hK; have t104 := hK.new 23 0 _ 104 _ rfl rfl rfl (by kernel_rfl) (waits haft 23 (by kernel_rfl)); (try dsimp only at t104); refine go_in (wanted_all rfl) ?_; intro K hk; clear haft hK hLi; go_simp; exact hS.go hk rfl
                apply LinAll.cons0
                · intro g L a x hLi haft hS hK; have t24 := (hK.old 24 (by kernel_rfl)).trans o24; have tg := hK.new 24 0 _ 105 _ rfl rfl rfl (by kernel_rfl) (waits haft 24 (by kernel_rfl)); (try dsimp only at t24); refine go_in (wanted_at rfl rfl rfl tg rfl) ?_; intro K hk; clear haft hK tg hLi; go_simp; exact hS.go hk rfl
                apply LinAll.cons0
                · intro g L a x hLi haft hS hK; have t15 := (hK.old 15 (by kernel_rfl)).trans o15; have tg := hK.new 24 1 _ 105 _ rfl rfl rfl (by kernel_rfl) (waits haft 24 (by kernel_rfl)); (try dsimp only at t15); refine go_in (wanted_at rfl rfl rfl tg rfl) ?_; intro K hk; obtain ⟨c0, c1, c2⟩ := (hS.own _ (.head _)).2.get3; clear haft hK tg hLi; go_simp; exact hS.go hk rfl
                apply LinAll.cons0
                · intro g L a x hLi haft hS hK; have t16 := (hK.old 16 (by kernel_rfl)).trans o16; have tg := hK.new 24 2 _ 105 _ rfl rfl rfl (by kernel_rfl) (waits haft 24 (by kernel_rfl)); (try dsimp only at t16); refine go_in (wanted_at rfl rfl rfl tg rfl) ?_; intro K hk; obtain ⟨c0, c1, c2⟩ := (hS.own _ (.tail _ (.head _))).2.get3; clear haft hK tg hLi; go_simp; exact hS.go hk rfl
                apply LinAll.cons0
                · intro g L a x hLi haft hS hK; have t107 := hK.new 26 1 _ 107 _ rfl rfl rfl (by kernel_rfl) (waits haft 26 (by kernel_rfl)); have t108 := hK.new 27 0 _ 108 _ rfl rfl rfl (by kernel_rfl) (waits haft 27 (by kernel_rfl)); have tg := hK.new 24 3 _ 105 _ rfl rfl rfl (by kernel_rfl) (waits haft 24 (by kernel_rfl)); (try dsimp only at t107 t108); refine go_in (wanted_at rfl rfl rfl tg rfl) ?_; intro K hk; clear haft hK tg hLi; go_simp; refine (H31.out _).mono ?_; rintro e y ⟨rfl, hb⟩; exact hS.on hk hb rfl
                apply LinAll.cons0
                · intro g L a x hLi haft hS hK; have t18 := (hK.old 18 (by kernel_rfl)).trans o18; have tg := hK.new 24 4 _ 105 _ rfl rfl rfl (by kernel_rfl) (waits haft 24 (by kernel_rfl)); (try dsimp only at t18); refine go_in (wanted_at rfl rfl rfl tg rfl) ?_; intro K hk; obtain ⟨c0, c1, c2⟩ := (hS.own _ (.tail _ (.tail _ (.tail _ (.head _))))).2.get3; clear haft hK tg hLi; go_simp; exact hS.go hk rfl
                apply LinAll.cons0
                · intro g L a x hLi haft hS hK; have t109 := hK.new 28 1 _ 109 _ rfl rfl rfl (by kernel_rfl) (waits haft 28 (by kernel_rfl)); have t110 := hK.new 29 0 _ 110 _ rfl rfl rfl (by kernel_rfl) (waits haft 29 (by kernel_rfl)); have tg := hK.new 24 5 _ 105 _ rfl rfl rfl (by kernel_rfl) (waits haft 24 (by kernel_rfl)); (try dsimp only at t109 t110); refine go_in (wanted_at rfl rfl rfl tg rfl) ?_; intro K hk; clear haft hK tg hLi; go_simp; exact hS.go hk rfl
                apply LinAll.cons0
                · intro g L a x hLi haft hS hK; have t106 := hK.new 25 5 _ 106 _ rfl rfl rfl (by kernel_rfl) (waits haft 25 (by kernel_rfl)); have t111 := hK.new 30 0 _ 111 _ rfl rfl rfl (by kernel_rfl) (waits haft 30 (by kernel_rfl)); have tg := hK.new 24 6 _ 105 _ rfl rfl rfl (by kernel_rfl) (waits haft 24 (by kernel_rfl)); (try dsimp only at t106 t111); refine go_in (wanted_at rfl rfl rfl tg rfl) ?_; intro K hk; clear haft hK tg hLi; go_simp; exact hS.go hk rfl
                apply LinAll.cons0
                · intro g L a x hLi haft hS hK; have t105 := hK.new 24 7 _ 105 _ rfl rfl rfl (by kernel_rfl) (waits haft 24 (by kernel_rfl)); have t112 := hK.new 31 0 _ 112 _ rfl rfl rfl (by kernel_rfl) (waits haft 31 (by kernel_rfl)); (try dsimp only at t105 t112); refine go_in (wanted_all rfl) ?_; intro K hk; clear haft hK hLi; go_simp; exact hS.go hk rfl
                apply LinAll.cons0
                · intro g L a x hLi haft hS hK; have t113 := hK.new 32 0 _ 113 _ rfl rfl rfl (by kernel_rfl) (waits haft 32 (by kernel_rfl)); (try dsimp only at t113); refine go_in (wanted_all rfl) ?_; intro K hk; clear haft hK hLi; go_simp; exact hS.go hk rfl
                apply LinAll.cons0
                · intro g L a x hLi haft hS hK; have t15 := (hK.old 15 (by kernel_rfl)).trans o15; have tg := hK.new 33 0 _ 114 _ rfl rfl rfl (by kernel_rfl) (waits haft 33 (by kernel_rfl)); (try dsimp only at t15); refine go_in (wanted_at rfl rfl rfl tg rfl) ?_; intro K hk; obtain ⟨c0, c1, c2⟩ := (hS.own _ (.head _)).2.get3; clear haft hK tg hLi; go_simp; exact hS.go hk rfl
                apply LinAll.cons0
                · intro g L a x hLi haft hS hK; have t16 := (hK.old 16 (by kernel_rfl)).trans o16; have tg := hK.new 33 1 _ 114 _ rfl rfl rfl (by kernel_rfl) (waits haft 33 (by kernel_rfl)); (try dsimp only at t16); refine go_in (wanted_at rfl rfl rfl tg rfl) ?_; intro K hk; obtain ⟨c0, c1, c2⟩ := (hS.own _ (.tail _ (.head _))).2.get3; clear haft hK tg hLi; go_simp; exact hS.go hk rfl
                apply LinAll.cons0
                · intro g L a x hLi haft hS hK; have t115 := hK.new 34 1 _ 115 _ rfl rfl rfl (by kernel_rfl) (waits haft 34 (by kernel_rfl)); have t116 := hK.new 35 0 _ 116 _ rfl rfl rfl (by kernel_rfl) (waits haft 35 (by kernel_rfl)); have tg := hK.new 33 2 _ 114 _ rfl rfl rfl (by kernel_rfl) (waits haft 33 (by kernel_rfl)); (try dsimp only at t115 t116); refine go_in (wanted_at rfl rfl rfl tg rfl) ?_; intro K hk; clear haft hK tg hLi; go_simp; refine (H8.out _).mono ?_; rintro e y ⟨rfl, hb⟩; exact hS.on hk hb rfl
                apply LinAll.cons0
                · intro g L a x hLi haft hS hK; have t18 := (hK.old 18 (by kernel_rfl)).trans o18; have tg := hK.new 33 3 _ 114 _ rfl rfl rfl (by kernel_rfl) (waits haft 33 (by kernel_rfl)); (try dsimp only at t18); refine go_in (wanted_at rfl rfl rfl tg rfl) ?_; intro K hk; obtain ⟨c0, c1, c2⟩ := (hS.own _ (.tail _ (.tail _ (.tail _ (.head _))))).2.get3; clear haft hK tg hLi; go_simp; exact hS.go hk rfl
                apply LinAll.cons0
                · intro g L a x hLi haft hS hK; have t117 := hK.new 36 1 _ 117 _ rfl rfl rfl (by kernel_rfl) (waits haft 36 (by kernel_rfl)); have t118 := hK.new 37 0 _ 118 _ rfl rfl rfl (by kernel_rfl) (waits haft 37 (by kernel_rfl)); have tg := hK.new 33 4 _ 114 _ rfl rfl rfl (by kernel_rfl) (waits haft 33 (by kernel_rfl)); (try dsimp only at t117 t118); refine go_in (wanted_at rfl rfl rfl tg rfl) ?_; intro K hk; clear haft hK tg hLi; go_simp; exact hS.go hk rfl
                apply LinAll.cons0
                · intro g L a x hLi haft hS hK; have t15 := (hK.old 15 (by kernel_rfl)).trans o15; have tg := hK.new 33 5 _ 114 _ rfl rfl rfl (by kernel_rfl) (waits haft 33 (by kernel_rfl)); (try dsimp only at t15); refine go_in (wanted_at rfl rfl rfl tg rfl) ?_; intro K hk; obtain ⟨c0, c1, c2⟩ := (hS.own _ (.head _)).2.get3; clear haft hK tg hLi; go_simp; exact hS.go hk rfl
                apply LinAll.cons0
                · intro g L a x hLi haft hS hK; have t16 := (hK.old 16 (by kernel_rfl)).trans o16; have tg := hK.new 33 6 _ 114 _ rfl rfl rfl (by kernel_rfl) (waits haft 33 (by kernel_rfl)); (try dsimp only at t16); refine go_in (wanted_at rfl rfl rfl tg rfl) ?_; intro K hk; obtain ⟨c0, c1, c2⟩ := (hS.own _ (.tail _ (.head _))).2.get3; clear haft hK tg hLi; go_simp; exact hS.go hk rfl
                apply LinAll.cons0
                · intro g L a x hLi haft hS hK; have t120 := hK.new 39 1 _ 120 _ rfl rfl rfl (by kernel_rfl) (waits haft 39 (by kernel_rfl)); have t121 := hK.new 40 0 _ 121 _ rfl rfl rfl (by kernel_rfl) (waits haft 40 (by kernel_rfl)); have tg := hK.new 33 7 _ 114 _ rfl rfl rfl (by kernel_rfl) (waits haft 33 (by kernel_rfl)); (try dsimp only at t120 t121); refine go_in (wanted_at rfl rfl rfl tg rfl) ?_; intro K hk; clear haft hK tg hLi; go_simp; exact hS.go hk rfl
                apply LinAll.cons0
                · intro g L a x hLi haft hS hK; have t119 := hK.new 38 3 _ 119 _ rfl rfl rfl (by kernel_rfl) (waits haft 38 (by kernel_rfl)); have t122 := hK.new 41 0 _ 122 _ rfl rfl rfl (by kernel_rfl) (waits haft 41 (by kernel_rfl)); have tg := hK.new 33 8 _ 114 _ rfl rfl rfl (by kernel_rfl) (waits haft 33 (by kernel_rfl)); (try dsimp only at t119 t122); refine go_in (wanted_at rfl rfl rfl tg rfl) ?_; intro K hk; clear haft hK tg hLi; go_simp; exact hS.go hk rfl
                apply LinAll.cons0
                · intro g L a x hLi haft hS hK; have t114 := hK.new 33 9 _ 114 _ rfl rfl rfl (by kernel_rfl) (waits haft 33 (by kernel_rfl)); have t123 := hK.new 42 0 _ 123 _ rfl rfl rfl (by kernel_rfl) (waits haft 42 (by kernel_rfl)); (try dsimp only at t114 t123); refine go_in (wanted_all rfl) ?_; intro K hk; clear haft hK hLi; go_simp; exact hS.go hk rfl
                apply LinAll.cons0
                · intro g L a x hLi haft hS hK; have t124 := hK.new 43 0 _ 124 _ rfl rfl rfl (by kernel_rfl) (waits haft 43 (by kernel_rfl)); (try dsimp only at t124); refine go_in (wanted_all rfl) ?_; intro K hk; clear haft hK hLi; go_simp; exact hS.go hk rfl
                apply LinAll.cons0
                · intro g L a x hLi haft hS hK; have t15 := (hK.old 15 (by kernel_rfl)).trans o15; have tg := hK.new 44 0 _ 125 _ rfl rfl rfl (by kernel_rfl) (waits haft 44 (by kernel_rfl)); (try dsimp only at t15); refine go_in (wanted_at rfl rfl rfl tg rfl) ?_; intro K hk; obtain ⟨c0, c1, c2⟩ := (hS.own _ (.head _)).2.get3; clear haft hK tg hLi; go_simp; exact hS.go hk rfl
                apply LinAll.cons0
                · intro g L a x hLi haft hS hK; have t16 := (hK.old 16 (by kernel_rfl)).trans o16; have tg := hK.new 44 1 _ 125 _ rfl rfl rfl (by kernel_rfl) (waits haft 44 (by kernel_rfl)); (try dsimp only at t16); refine go_in (wanted_at rfl rfl rfl tg rfl) ?_; intro K hk; obtain ⟨c0, c1, c2⟩ := (hS.own _ (.tail _ (.head _))).2.get3; clear haft hK tg hLi; go_simp; exact hS.go hk rfl
                apply LinAll.cons0
                · intro g L a x hLi haft hS hK; have t126 := hK.new 45 1 _ 126 _ rfl rfl rfl (by kernel_rfl) (waits haft 45 (by kernel_rfl)); have t127 := hK.new 46 0 _ 127 _ rfl rfl rfl (by kernel_rfl) (waits haft 46 (by kernel_rfl)); have tg := hK.new 44 2 _ 125 _ rfl rfl rfl (by kernel_rfl) (waits haft 44 (by kernel_rfl)); (try dsimp only at t126 t127); refine go_in (wanted_at rfl rfl rfl tg rfl) ?_; intro K hk; clear haft hK tg hLi; go_simp; refine (H37.out _).mono ?_; rintro e y ⟨rfl, hb⟩; exact hS.on hk hb rfl
                apply LinAll.cons0
                · intro g L a x hLi haft hS hK; have t128 := hK.new 47 0 _ 128 _ rfl rfl rfl (by kernel_rfl) (waits haft 47 (by kernel_rfl)); have tg := hK.new 44 3 _ 125 _ rfl rfl rfl (by kernel_rfl) (waits haft 44 (by kernel_rfl)); (try dsimp only at t128); refine go_in (wanted_at rfl rfl rfl tg rfl) ?_; intro K hk; clear haft hK tg hLi; go_simp; exact hS.go hk rfl
                apply LinAll.cons0
                · intro g L a x hLi haft hS hK; have t129 := hK.new 48 0 _ 129 _ rfl rfl rfl (by kernel_rfl) (waits haft 48 (by kernel_rfl)); have tg := hK.new 44 4 _ 125 _ rfl rfl rfl (by kernel_rfl) (waits haft 44 (by kernel_rfl)); (try dsimp only at t129); refine go_in (wanted_at rfl rfl rfl tg rfl) ?_; intro K hk; clear haft hK tg hLi; go_simp; exact hS.go hk rfl
                apply LinAll.cons0
                · intro g L a x hLi haft hS hK; have t15 := (hK.old 15 (by kernel_rfl)).trans o15; have tg := hK.new 44 5 _ 125 _ rfl rfl rfl (by kernel_rfl) (waits haft 44 (by kernel_rfl)); (try dsimp only at t15); refine go_in (wanted_at rfl rfl rfl tg rfl) ?_; intro K hk; obtain ⟨c0, c1, c2⟩ := (hS.own _ (.head _)).2.get3; clear haft hK tg hLi; go_simp; exact hS.go hk rfl
                apply LinAll.cons0
                · intro g L a x hLi haft hS hK; have t16 := (hK.old 16 (by kernel_rfl)).trans o16; have tg := hK.new 44 6 _ 125 _ rfl rfl rfl (by kernel_rfl) (waits haft 44 (by kernel_rfl)); (try dsimp only at t16); refine go_in (wanted_at rfl rfl rfl tg rfl) ?_; intro K hk; obtain ⟨c0, c1, c2⟩ := (hS.own _ (.tail _ (.head _))).2.get3; clear haft hK tg hLi; go_simp; exact hS.go hk rfl
                apply LinAll.cons0
                · intro g L a x hLi haft hS hK; have t131 := hK.new 50 1 _ 131 _ rfl rfl rfl (by kernel_rfl) (waits haft 50 (by kernel_rfl)); have t132 := hK.new 51 0 _ 132 _ rfl rfl rfl (by kernel_rfl) (waits haft 51 (by kernel_rfl)); have tg := hK.new 44 7 _ 125 _ rfl rfl rfl (by kernel_rfl) (waits haft 44 (by kernel_rfl)); (try dsimp only at t131 t132); refine go_in (wanted_at rfl rfl rfl tg rfl) ?_; intro K hk; clear haft hK tg hLi; go_simp; exact hS.go hk rfl
                apply LinAll.cons0
                · intro g L a x hLi haft hS hK; have t130 := hK.new 49 3 _ 130 _ rfl rfl rfl (by kernel_rfl) (waits haft 49 (by kernel_rfl)); have t133 := hK.new 52 0 _ 133 _ rfl rfl rfl (by kernel_rfl) (waits haft 52 (by kernel_rfl)); have tg := hK.new 44 8 _ 125 _ rfl rfl rfl (by kernel_rfl) (waits haft 44 (by kernel_rfl)); (try dsimp only at t130 t133); refine go_in (wanted_at rfl rfl rfl tg rfl) ?_; intro K hk; clear haft hK tg hLi; go_simp; exact hS.go hk rfl
                apply LinAll.cons0
                · intro g L a x hLi haft hS hK; have t125 := hK.new 44 9 _ 125 _ rfl rfl rfl (by kernel_rfl) (waits haft 44 (by kernel_rfl)); have t134 := hK.new 53 0 _ 134 _ rfl rfl rfl (by kernel_rfl) (waits haft 53 (by kernel_rfl)); (try dsimp only at t125 t134); refine go_in (wanted_all rfl) ?_; intro K hk; clear haft hK hLi; go_simp; exact hS.go hk rfl
                refine LinAll.nil fun g x hS => ?_
                subst ha0
                simp only [Act.put, List.setIfInBounds_toArray, List.set_cons_zero, List.set_cons_succ]
                clear o15 o16 o18 o23 o24
                have KL := And.intro (hS.own _ (.head _)).2.get3 (And.intro (hS.own _ (.tail _ (.head _))).2.get3 (And.intro (hS.own _ (.tail _ (.tail _ (.head _)))).2.get3 (hS.own _ (.tail _ (.tail _ (.tail _ (.head _))))).2.get3))
                have hBq := hS.below
                have hBs := hBq.size
                clear hS
                go_wp2_with fail
                go_meet
                case rel =>
                  refine ⟨rfl, ⟨?_, ?_, ?_, ?_, ?_, ?_, ?_, ?_, ?_, ?_, ?_, ?_⟩, hBq⟩
                  all_goals simp [KL]
              case rest =>
                clear KF1 hbl1 hbs1 H31r H32r H31 H8 H37
                obtain ⟨rfl, KF1, hbl1⟩ := hcut
                have hbs1 := hbl1.size
                go_upto_region 15 with fail
                go_cut [150] from 136 to 150 (fun v150 X => v150 = .bool false ∧ (X.cell? ⟨w4.heap.size, 0, none⟩ = some (.int .i64 W) ∧ X.cell? ⟨w4.heap.size, 1, none⟩ = some (.int .u64 (LO (n))) ∧ X.cell? ⟨w4.heap.size, 2, none⟩ = some (.int .u64 (HI (n))) ∧ X.cell? ⟨w4.heap.size + 1, 0, none⟩ = some (.int .i64 W) ∧ X.cell? ⟨w4.heap.size + 1, 1, none⟩ = some (.int .u64 (LO (m))) ∧ X.cell? ⟨w4.heap.size + 1, 2, none⟩ = some (.int .u64 (HI (m))) ∧ X.cell? ⟨w4.heap.size + 1 + 1, 0, none⟩ = some (.int .i64 W) ∧ X.cell? ⟨w4.heap.size + 1 + 1, 1, none⟩ = some (.int .u64 (LO (k))) ∧ X.cell? ⟨w4.heap.size + 1 + 1, 2, none⟩ = some (.int .u64 (HI (k))) ∧ X.cell? ⟨w5.heap.size, 0, none⟩ = some (.int .i64 0) ∧ X.cell? ⟨w5.heap.size, 1, none⟩ = some (.int .u64 (LO (b01 true))) ∧ X.cell? ⟨w5.heap.size, 2, none⟩ = some (.int .u64 (HI (b01 true)))) ∧ Below w.heap.size w X)
                case first =>
                  by_cases hu : m ≤ k
                  · skip
                    have HL1 : Hid (∀ wx, Calls Try.prog 34 #[.int .i64 30, .agg #[.int .i64 W, .int .u64 (LO (m)), .int .u64 (HI (m))], .agg #[.int .i64 W, .int .u64 (LO (k)), .int .u64 (HI (k))]] wx fun e w' => e = .returned (.agg #[.int .i64 0, .int .u64 (LO (b01 true)), .int .u64 (HI (b01 true))]) ∧ Below wx.heap.size wx w') := fun wx => by
                      have h := do_cmp (k := 1) (op := 30) rfl (by decide) (Wd.mk' h1 h2 hm) (Wd.mk' h1 h2 hk) wx
                      rw [show cmpv 1 W m k = true by simp [cmpv, ltB]; omega] at h
                      exact h
                    have HL2 : Hid (∀ wx, Calls Try.prog 34 #[.int .i64 30, .agg #[.int .i64 W, .int .u64 (LO (n)), .int .u64 (HI (n))], .agg #[.int .i64 W, .int .u64 (LO (k)), .int .u64 (HI (k))]] wx fun e w' => e = .returned (.agg #[.int .i64 0, .int .u64 (LO (b01 true)), .int .u64 (HI (b01 true))]) ∧ Below wx.heap.size wx w') := fun wx => by
                      have h := do_cmp (k := 1) (op := 30) rfl (by decide) (Wd.mk' h1 h2 hn) (Wd.mk' h1 h2 hk) wx
                      rw [show cmpv 1 W n k = true by simp [cmpv, ltB]; omega] at h
                      exact h
                    refine wp_named fun a0 ha0 => ?_
                    have o15 := old_at ha0 (t := 15) rfl
                    have o16 := old_at ha0 (t := 16) rfl
                    have o17 := old_at ha0 (t := 17) rfl
                    have o18 := old_at ha0 (t := 18) rfl
                    have o24 := old_at ha0 (t := 24) rfl
                    refine wp_region_lin (S := SS w wc.heap.size [(w4.heap.size, [.int .i64 W, .int .u64 (LO (n)), .int .u64 (HI (n))]), (w4.heap.size + 1, [.int .i64 W, .int .u64 (LO (m)), .int .u64 (HI (m))]), (w4.heap.size + 1 + 1, [.int .i64 W, .int .u64 (LO (k)), .int .u64 (HI (k))]), (w5.heap.size, [.int .i64 0, .int .u64 (LO (b01 true)), .int .u64 (HI (b01 true))])] []) [] (fun _ => 0) (by kernel_rfl) (by kernel_rfl) (by rw [← ha0]; kernel_rfl) (SS.start (by first | assumption | go_grown) ?_) ?_
                    · intro p hp; simp only [List.mem_cons, List.not_mem_nil, or_false] at hp; rcases hp with rfl | rfl | rfl | rfl; all_goals exact ⟨At.three (by simp [KF1]) (by simp [KF1]) (by simp [KF1]), by simp⟩
                    apply LinAll.cons0
                    · intro g L a x hLi haft hS hK; have t24 := (hK.old 24 (by kernel_rfl)).trans o24; (try dsimp only at t24); refine go_in (wanted_all rfl) ?_; intro K hk; clear haft hK hLi; go_simp; exact hS.go hk rfl
                    apply LinAll.cons0
                    · intro g L a x hLi haft hS hK; have t136 := hK.new 0 0 _ 136 _ rfl rfl rfl (by kernel_rfl) (waits haft 0 (by kernel_rfl)); (try dsimp only at t136); refine go_in (wanted_all rfl) ?_; intro K hk; clear haft hK hLi; go_simp; exact hS.go hk rfl
                    apply LinAll.cons0
                    · intro g L a x hLi haft hS hK; have t16 := (hK.old 16 (by kernel_rfl)).trans o16; have tg := hK.new 1 0 _ 137 _ rfl rfl rfl (by kernel_rfl) (waits haft 1 (by kernel_rfl)); (try dsimp only at t16); refine go_in (wanted_at rfl rfl rfl tg rfl) ?_; intro K hk; obtain ⟨c0, c1, c2⟩ := (hS.own _ (.tail _ (.head _))).2.get3; clear haft hK tg hLi; go_simp; exact hS.go hk rfl
                    apply LinAll.cons0
                    · intro g L a x hLi haft hS hK; have t17 := (hK.old 17 (by kernel_rfl)).trans o17; have tg := hK.new 1 1 _ 137 _ rfl rfl rfl (by kernel_rfl) (waits haft 1 (by kernel_rfl)); (try dsimp only at t17); refine go_in (wanted_at rfl rfl rfl tg rfl) ?_; intro K hk; obtain ⟨c0, c1, c2⟩ := (hS.own _ (.tail _ (.tail _ (.head _)))).2.get3; clear haft hK tg hLi; go_simp; exact hS.go hk rfl
                    apply LinAll.cons0
                    · intro g L a x hLi haft hS hK; have t138 := hK.new 2 1 _ 138 _ rfl rfl rfl (by kernel_rfl) (waits haft 2 (by kernel_rfl)); have t139 := hK.new 3 0 _ 139 _ rfl rfl rfl (by kernel_rfl) (waits haft 3 (by kernel_rfl)); have tg := hK.new 1 2 _ 137 _ rfl rfl rfl (by kernel_rfl) (waits haft 1 (by kernel_rfl)); (try dsimp only at t138 t139); refine go_in (wanted_at rfl rfl rfl tg rfl) ?_; intro K hk; clear haft hK tg hLi; go_simp; refine (HL1.out _).mono ?_; rintro e y ⟨rfl, hb⟩; exact hS.on hk hb rfl
                    apply LinAll.cons0
                    · intro g L a x hLi haft hS hK; have t18 := (hK.old 18 (by kernel_rfl)).trans o18; have tg := hK.new 1 3 _ 137 _ rfl rfl rfl (by kernel_rfl) (waits haft 1 (by kernel_rfl)); (try dsimp only at t18); refine go_in (wanted_at rfl rfl rfl tg rfl) ?_; intro K hk; obtain ⟨c0, c1, c2⟩ := (hS.own _ (.tail _ (.tail _ (.tail _ (.head _))))).2.get3; clear haft hK tg hLi; go_simp; exact hS.go hk rfl
                    apply LinAll.cons0
                    · intro g L a x hLi haft hS hK; have t140 := hK.new 4 1 _ 140 _ rfl rfl rfl (by kernel_rfl) (waits haft 4 (by kernel_rfl)); have t141 := hK.new 5 0 _ 141 _ rfl rfl rfl (by kernel_rfl) (waits haft 5 (by kernel_rfl)); have tg := hK.new 1 4 _ 137 _ rfl rfl rfl (by kernel_rfl) (waits haft 1 (by kernel_rfl)); (try dsimp only at t140 t141); refine go_in (wanted_at rfl rfl rfl tg rfl) ?_; intro K hk; clear haft hK tg hLi; go_simp; exact hS.go hk rfl
                    apply LinAll.cons0
                    · intro g L a x hLi haft hS hK; have t137 := hK.new 1 5 _ 137 _ rfl rfl rfl (by kernel_rfl) (waits haft 1 (by kernel_rfl)); have t142 := hK.new 6 0 _ 142 _ rfl rfl rfl (by kernel_rfl) (waits haft 6 (by kernel_rfl)); (try dsimp only at t137 t142); refine go_in (wanted_all rfl) ?_; intro K hk; clear haft hK hLi; go_simp; exact hS.go hk rfl
                    apply LinAll.cons0
                    · intro g L a x hLi haft hS hK; have t143 := hK.new 7 0 _ 143 _ rfl rfl rfl (by kernel_rfl) (waits haft 7 (by kernel_rfl)); (try dsimp only at t143); refine go_in (wanted_all rfl) ?_; intro K hk; clear haft hK hLi; go_simp; exact hS.go hk rfl
                    apply LinAll.cons0
                    · intro g L a x hLi haft hS hK; have t15 := (hK.old 15 (by kernel_rfl)).trans o15; have tg := hK.new 8 0 _ 144 _ rfl rfl rfl (by kernel_rfl) (waits haft 8 (by kernel_rfl)); (try dsimp only at t15); refine go_in (wanted_at rfl rfl rfl tg rfl) ?_; intro K hk; obtain ⟨c0, c1, c2⟩ := (hS.own _ (.head _)).2.get3; clear haft hK tg hLi; go_simp; exact hS.go hk rfl
                    apply LinAll.cons0
                    · intro g L a x hLi haft hS hK; have t17 := (hK.old 17 (by kernel_rfl)).trans o17; have tg := hK.new 8 1 _ 144 _ rfl rfl rfl (by kernel_rfl) (waits haft 8 (by kernel_rfl)); (try dsimp only at t17); refine go_in (wanted_at rfl rfl rfl tg rfl) ?_; intro K hk; obtain ⟨c0, c1, c2⟩ := (hS.own _ (.tail _ (.tail _ (.head _)))).2.get3; clear haft hK tg hLi; go_simp; exact hS.go hk rfl
                    apply LinAll.cons0
                    · intro g L a x hLi haft hS hK; have t145 := hK.new 9 1 _ 145 _ rfl rfl rfl (by kernel_rfl) (waits haft 9 (by kernel_rfl)); have t146 := hK.new 10 0 _ 146 _ rfl rfl rfl (by kernel_rfl) (waits haft 10 (by kernel_rfl)); have tg := hK.new 8 2 _ 144 _ rfl rfl rfl (by kernel_rfl) (waits haft 8 (by kernel_rfl)); (try dsimp only at t145 t146); refine go_in (wanted_at rfl rfl rfl tg rfl) ?_; intro K hk; clear haft hK tg hLi; go_simp; refine (HL2.out _).mono ?_; rintro e y ⟨rfl, hb⟩; exact hS.on hk hb rfl
                    apply LinAll.cons0
                    · intro g L a x hLi haft hS hK; have t18 := (hK.old 18 (by kernel_rfl)).trans o18; have tg := hK.new 8 3 _ 144 _ rfl rfl rfl (by kernel_rfl) (waits haft 8 (by kernel_rfl)); (try dsimp only at t18); refine go_in (wanted_at rfl rfl rfl tg rfl) ?_; intro K hk; obtain ⟨c0, c1, c2⟩ := (hS.own _ (.tail _ (.tail _ (.tail _ (.head _))))).2.get3; clear haft hK tg hLi; go_simp; exact hS.go hk rfl
                    apply LinAll.cons0
                    · intro g L a x hLi haft hS hK; have t147 := hK.new 11 1 _ 147 _ rfl rfl rfl (by kernel_rfl) (waits haft 11 (by kernel_rfl)); have t148 := hK.new 12 0 _ 148 _ rfl rfl rfl (by kernel_rfl) (waits haft 12 (by kernel_rfl)); have tg := hK.new 8 4 _ 144 _ rfl rfl rfl (by kernel_rfl) (waits haft 8 (by kernel_rfl)); (try dsimp only at t147 t148); refine go_in (wanted_at rfl rfl rfl tg rfl) ?_; intro K hk; clear haft hK tg hLi; go_simp; exact hS.go hk rfl
                    apply LinAll.cons0
                    · intro g L a x hLi haft hS hK; have t144 := hK.new 8 5 _ 144 _ rfl rfl rfl (by kernel_rfl) (waits haft 8 (by kernel_rfl)); have t149 := hK.new 13 0 _ 149 _ rfl rfl rfl (by kernel_rfl) (waits haft 13 (by kernel_rfl)); (try dsimp only at t144 t149); refine go_in (wanted_all rfl) ?_; intro K hk; clear haft hK hLi; go_simp; exact hS.go hk rfl
                    refine LinAll.nil fun g x hS => ?_
                    subst ha0
                    simp only [Act.put, List.setIfInBounds_toArray, List.set_cons_zero, List.set_cons_succ]
                    clear o15 o16 o17 o18 o24
                    have KL := And.intro (hS.own _ (.head _)).2.get3 (And.intro (hS.own _ (.tail _ (.head _))).2.get3 (And.intro (hS.own _ (.tail _ (.tail _ (.head _)))).2.get3 (hS.own _ (.tail _ (.tail _ (.tail _ (.head _))))).2.get3))
                    have hBq := hS.below
                    have hBs := hBq.size
                    clear hS
                    go_wp2_with fail
                    go_meet
                    case rel =>
                      refine ⟨rfl, ⟨?_, ?_, ?_, ?_, ?_, ?_, ?_, ?_, ?_, ?_, ?_, ?_⟩, hBq⟩
                      all_goals simp [KL]
                  · skip
                    have HL1 : Hid (∀ wx, Calls Try.prog 34 #[.int .i64 30, .agg #[.int .i64 W, .int .u64 (LO (m)), .int .u64 (HI (m))], .agg #[.int .i64 W, .int .u64 (LO (k)), .int .u64 (HI (k))]] wx fun e w' => e = .returned (.agg #[.int .i64 0, .int .u64 (LO (b01 false)), .int .u64 (HI (b01 false))]) ∧ Below wx.heap.size wx w') := fun wx => by
                      have h := do_cmp (k := 1) (op := 30) rfl (by decide) (Wd.mk' h1 h2 hm) (Wd.mk' h1 h2 hk) wx
                      rw [show cmpv 1 W m k = false by simp [cmpv, ltB]; omega] at h
                      exact h
                    refine wp_named fun a0 ha0 => ?_
                    have o15 := old_at ha0 (t := 15) rfl
                    have o16 := old_at ha0 (t := 16) rfl
                    have o17 := old_at ha0 (t := 17) rfl
                    have o18 := old_at ha0 (t := 18) rfl
                    have o24 := old_at ha0 (t := 24) rfl
                    refine wp_region_lin (S := SS w wc.heap.size [(w4.heap.size, [.int .i64 W, .int .u64 (LO (n)), .int .u64 (HI (n))]), (w4.heap.size + 1, [.int .i64 W, .int .u64 (LO (m)), .int .u64 (HI (m))]), (w4.heap.size + 1 + 1, [.int .i64 W, .int .u64 (LO (k)), .int .u64 (HI (k))]), (w5.heap.size, [.int .i64 0, .int .u64 (LO (b01 true)), .int .u64 (HI (b01 true))])] []) [] (fun _ => 0) (by kernel_rfl) (by kernel_rfl) (by rw [← ha0]; kernel_rfl) (SS.start (by first | assumption | go_grown) ?_) ?_
                    · intro p hp; simp only [List.mem_cons, List.not_mem_nil, or_false] at hp; rcases hp with rfl | rfl | rfl | rfl; all_goals exact ⟨At.three (by simp [KF1]) (by simp [KF1]) (by simp [KF1]), by simp⟩
                    apply LinAll.cons0
                    · intro g L a x hLi haft hS hK; have t24 := (hK.old 24 (by kernel_rfl)).trans o24; (try dsimp only at t24); refine go_in (wanted_all rfl) ?_; intro K hk; clear haft hK hLi; go_simp; exact hS.go hk rfl
                    apply LinAll.cons0
                    · intro g L a x hLi haft hS hK; have t136 := hK.new 0 0 _ 136 _ rfl rfl rfl (by kernel_rfl) (waits haft 0 (by kernel_rfl)); (try dsimp only at t136); refine go_in (wanted_all rfl) ?_; intro K hk; clear haft hK hLi; go_simp; exact hS.go hk rfl
                    apply LinAll.cons0
                    · intro g L a x hLi haft hS hK; have t16 := (hK.old 16 (by kernel_rfl)).trans o16; have tg := hK.new 1 0 _ 137 _ rfl rfl rfl (by kernel_rfl) (waits haft 1 (by kernel_rfl)); (try dsimp only at t16); refine go_in (wanted_at rfl rfl rfl tg rfl) ?_; intro K hk; obtain ⟨c0, c1, c2⟩ := (hS.own _ (.tail _ (.head _))).2.get3; clear haft hK tg hLi; go_simp; exact hS.go hk rfl
                    apply LinAll.cons0
                    · intro g L a x hLi haft hS hK; have t17 := (hK.old 17 (by kernel_rfl)).trans o17; have tg := hK.new 1 1 _ 137 _ rfl rfl rfl (by kernel_rfl) (waits haft 1 (by kernel_rfl)); (try dsimp only at t17); refine go_in (wanted_at rfl rfl rfl tg rfl) ?_; intro K hk; obtain ⟨c0, c1, c2⟩ := (hS.own _ (.tail _ (.tail _ (.head _)))).2.get3; clear haft hK tg hLi; go_simp; exact hS.go hk rfl
                    apply LinAll.cons0
                    · intro g L a x hLi haft hS hK; have t138 := hK.new 2 1 _ 138 _ rfl rfl rfl (by kernel_rfl) (waits haft 2 (by kernel_rfl)); have t139 := hK.new 3 0 _ 139 _ rfl rfl rfl (by kernel_rfl) (waits haft 3 (by kernel_rfl)); have tg := hK.new 1 2 _ 137 _ rfl rfl rfl (by kernel_rfl) (waits haft 1 (by kernel_rfl)); (try dsimp only at t138 t139); refine go_in (wanted_at rfl rfl rfl tg rfl) ?_; intro K hk; clear haft hK tg hLi; go_simp; refine (HL1.out _).mono ?_; rintro e y ⟨rfl, hb⟩; exact hS.on hk hb rfl
                    apply LinAll.cons0
                    · intro g L a x hLi haft hS hK; have t18 := (hK.old 18 (by kernel_rfl)).trans o18; have tg := hK.new 1 3 _ 137 _ rfl rfl rfl (by kernel_rfl) (waits haft 1 (by kernel_rfl)); (try dsimp only at t18); refine go_in (wanted_at rfl rfl rfl tg rfl) ?_; intro K hk; obtain ⟨c0, c1, c2⟩ := (hS.own _ (.tail _ (.tail _ (.tail _ (.head _))))).2.get3; clear haft hK tg hLi; go_simp; exact hS.go hk rfl
                    apply LinAll.cons0
                    · intro g L a x hLi haft hS hK; have t140 := hK.new 4 1 _ 140 _ rfl rfl rfl (by kernel_rfl) (waits haft 4 (by kernel_rfl)); have t141 := hK.new 5 0 _ 141 _ rfl rfl rfl (by kernel_rfl) (waits haft 5 (by kernel_rfl)); have tg := hK.new 1 4 _ 137 _ rfl rfl rfl (by kernel_rfl) (waits haft 1 (by kernel_rfl)); (try dsimp only at t140 t141); refine go_in (wanted_at rfl rfl rfl tg rfl) ?_; intro K hk; clear haft hK tg hLi; go_simp; exact hS.go hk rfl
                    apply LinAll.cons0
                    · intro g L a x hLi haft hS hK; have t137 := hK.new 1 5 _ 137 _ rfl rfl rfl (by kernel_rfl) (waits haft 1 (by kernel_rfl)); have t142 := hK.new 6 0 _ 142 _ rfl rfl rfl (by kernel_rfl) (waits haft 6 (by kernel_rfl)); (try dsimp only at t137 t142); refine go_in (wanted_all rfl) ?_; intro K hk; clear haft hK hLi; go_simp; exact hS.go hk rfl
                    apply LinAll.cons0
                    · intro g L a x hLi haft hS hK; have t143 := hK.new 7 0 _ 143 _ rfl rfl rfl (by kernel_rfl) (waits haft 7 (by kernel_rfl)); (try dsimp only at t143); refine go_in (wanted_all rfl) ?_; intro K hk; clear haft hK hLi; go_simp; exact hS.go hk rfl
                    apply LinAll.cons0
                    · intro g L a x hLi haft hS hK; have t15 := (hK.old 15 (by kernel_rfl)).trans o15; have tg := hK.new 8 0 _ 144 _ rfl rfl rfl (by kernel_rfl) (waits haft 8 (by kernel_rfl)); (try dsimp only at t15); exact go_out (wanted_at rfl rfl rfl tg rfl) ⟨rfl, hS.same rfl⟩
                    apply LinAll.cons0
                    · intro g L a x hLi haft hS hK; have t17 := (hK.old 17 (by kernel_rfl)).trans o17; have tg := hK.new 8 1 _ 144 _ rfl rfl rfl (by kernel_rfl) (waits haft 8 (by kernel_rfl)); (try dsimp only at t17); exact go_out (wanted_at rfl rfl rfl tg rfl) ⟨rfl, hS.same rfl⟩
                    apply LinAll.cons0
                    · intro g L a x hLi haft hS hK; have t145 := hK.new 9 1 _ 145 _ rfl rfl rfl (by kernel_rfl) (waits haft 9 (by kernel_rfl)); have t146 := hK.new 10 0 _ 146 _ rfl rfl rfl (by kernel_rfl) (waits haft 10 (by kernel_rfl)); have tg := hK.new 8 2 _ 144 _ rfl rfl rfl (by kernel_rfl) (waits haft 8 (by kernel_rfl)); (try dsimp only at t145 t146); exact go_out (wanted_at rfl rfl rfl tg rfl) ⟨rfl, hS.same rfl⟩
                    apply LinAll.cons0
                    · intro g L a x hLi haft hS hK; have t18 := (hK.old 18 (by kernel_rfl)).trans o18; have tg := hK.new 8 3 _ 144 _ rfl rfl rfl (by kernel_rfl) (waits haft 8 (by kernel_rfl)); (try dsimp only at t18); exact go_out (wanted_at rfl rfl rfl tg rfl) ⟨rfl, hS.same rfl⟩
                    apply LinAll.cons0
                    · intro g L a x hLi haft hS hK; have t147 := hK.new 11 1 _ 147 _ rfl rfl rfl (by kernel_rfl) (waits haft 11 (by kernel_rfl)); have t148 := hK.new 12 0 _ 148 _ rfl rfl rfl (by kernel_rfl) (waits haft 12 (by kernel_rfl)); have tg := hK.new 8 4 _ 144 _ rfl rfl rfl (by kernel_rfl) (waits haft 8 (by kernel_rfl)); (try dsimp only at t147 t148); exact go_out (wanted_at rfl rfl rfl tg rfl) ⟨rfl, hS.same rfl⟩
                    apply LinAll.cons0
                    · intro g L a x hLi haft hS hK; have t144 := hK.new 8 5 _ 144 _ rfl rfl rfl (by kernel_rfl) (waits haft 8 (by kernel_rfl)); have t149 := hK.new 13 0 _ 149 _ rfl rfl rfl (by kernel_rfl) (waits haft 13 (by kernel_rfl)); (try dsimp only at t144 t149); refine go_in (wanted_all rfl) ?_; intro K hk; clear haft hK hLi; go_simp; exact hS.go hk rfl
                    refine LinAll.nil fun g x hS => ?_
                    subst ha0
                    simp only [Act.put, List.setIfInBounds_toArray, List.set_cons_zero, List.set_cons_succ]
                    clear o15 o16 o17 o18 o24
                    have KL := And.intro (hS.own _ (.head _)).2.get3 (And.intro (hS.own _ (.tail _ (.head _))).2.get3 (And.intro (hS.own _ (.tail _ (.tail _ (.head _)))).2.get3 (hS.own _ (.tail _ (.tail _ (.tail _ (.head _))))).2.get3))
                    have hBq := hS.below
                    have hBs := hBq.size
                    clear hS
                    go_wp2_with fail
                    go_meet
                    case rel =>
                      refine ⟨rfl, ⟨?_, ?_, ?_, ?_, ?_, ?_, ?_, ?_, ?_, ?_, ?_, ?_⟩, hBq⟩
                      all_goals simp [KL]
                case rest =>
                  clear KF1 hbl1 hbs1
                  obtain ⟨rfl, KF1, hbl1⟩ := hcut
                  have hbs1 := hbl1.size
                  go_wp2_with fail
                  go_ret
                  exact ⟨rfl, by go_grown⟩
          · skip
            have heq : eqB n m = false := by simp [eqB]; omega
            have H29 : Hid (∀ wx, Calls Try.prog 34 #[.int .i64 29, .agg #[.int .i64 W, .int .u64 (LO (n)), .int .u64 (HI (n))], .agg #[.int .i64 W, .int .u64 (LO (m)), .int .u64 (HI (m))]] wx fun e w' => e = .returned (.agg #[.int .i64 0, .int .u64 (LO (b01 false)), .int .u64 (HI (b01 false))]) ∧ Below wx.heap.size wx w') := fun wx => by
              have h := do_cmp (k := 0) (op := 29) rfl (by decide) (Wd.mk' h1 h2 hn) (Wd.mk' h1 h2 hm) wx
              rw [show cmpv 0 W n m = false by simp [cmpv, ltB]; omega] at h
              exact h
            have H30 : Hid (∀ wx, Calls Try.prog 34 #[.int .i64 30, .agg #[.int .i64 W, .int .u64 (LO (n)), .int .u64 (HI (n))], .agg #[.int .i64 W, .int .u64 (LO (m)), .int .u64 (HI (m))]] wx fun e w' => e = .returned (.agg #[.int .i64 0, .int .u64 (LO (b01 false)), .int .u64 (HI (b01 false))]) ∧ Below wx.heap.size wx w') := fun wx => by
              have h := do_cmp (k := 1) (op := 30) rfl (by decide) (Wd.mk' h1 h2 hn) (Wd.mk' h1 h2 hm) wx
              rw [show cmpv 1 W n m = false by simp [cmpv, ltB]; omega] at h
              exact h
            have H31r : Hid (∀ wx, Calls Try.prog 34 #[.int .i64 31, .agg #[.int .i64 W, .int .u64 (LO (m)), .int .u64 (HI (m))], .agg #[.int .i64 W, .int .u64 (LO (n)), .int .u64 (HI (n))]] wx fun e w' => e = .returned (.agg #[.int .i64 0, .int .u64 (LO (b01 false)), .int .u64 (HI (b01 false))]) ∧ Below wx.heap.size wx w') := fun wx => by
              have h := do_cmp (k := 2) (op := 31) rfl (by decide) (Wd.mk' h1 h2 hm) (Wd.mk' h1 h2 hn) wx
              rw [show cmpv 2 W m n = false by simp [cmpv, ltB]; omega] at h
              exact h
            have H32r : Hid (∀ wx, Calls Try.prog 34 #[.int .i64 32, .agg #[.int .i64 W, .int .u64 (LO (m)), .int .u64 (HI (m))], .agg #[.int .i64 W, .int .u64 (LO (n)), .int .u64 (HI (n))]] wx fun e w' => e = .returned (.agg #[.int .i64 0, .int .u64 (LO (b01 false)), .int .u64 (HI (b01 false))]) ∧ Below wx.heap.size wx w') := fun wx => by
              have h := do_cmp (k := 3) (op := 32) rfl (by decide) (Wd.mk' h1 h2 hm) (Wd.mk' h1 h2 hn) wx
              rw [show cmpv 3 W m n = false by simp [cmpv, ltB]; omega] at h
              exact h
            have H31 : Hid (∀ wx, Calls Try.prog 34 #[.int .i64 31, .agg #[.int .i64 W, .int .u64 (LO (n)), .int .u64 (HI (n))], .agg #[.int .i64 W, .int .u64 (LO (m)), .int .u64 (HI (m))]] wx fun e w' => e = .returned (.agg #[.int .i64 0, .int .u64 (LO (b01 true)), .int .u64 (HI (b01 true))]) ∧ Below wx.heap.size wx w') := fun wx => by
              have h := do_cmp (k := 2) (op := 31) rfl (by decide) (Wd.mk' h1 h2 hn) (Wd.mk' h1 h2 hm) wx
              rw [show cmpv 2 W n m = true by simp [cmpv, ltB]; omega] at h
              exact h
            have H8 : Hid (∀ wx, Calls Try.prog 34 #[.int .i64 8, .agg #[.int .i64 W, .int .u64 (LO (n)), .int .u64 (HI (n))], .agg #[.int .i64 W, .int .u64 (LO (m)), .int .u64 (HI (m))]] wx fun e w' => e = .returned (.agg #[.int .i64 0, .int .u64 (LO (b01 false)), .int .u64 (HI (b01 false))]) ∧ Below wx.heap.size wx w') := fun wx => do_eq heq (Wd.mk' h1 h2 hn) (Wd.mk' h1 h2 hm) wx
            have H37 : Hid (∀ wx, Calls Try.prog 34 #[.int .i64 37, .agg #[.int .i64 W, .int .u64 (LO (n)), .int .u64 (HI (n))], .agg #[.int .i64 W, .int .u64 (LO (m)), .int .u64 (HI (m))]] wx fun e w' => e = .returned (.agg #[.int .i64 1, .int .u64 0, .int .u64 0]) ∧ Below wx.heap.size wx w') := fun wx => do_comp heq (Wd.mk' h1 h2 hn) (Wd.mk' h1 h2 hm) wx
            have hmk : m < n := by omega
            clear ht
            go_upto_region 12 with fail
            go_cut [23, 24] from 71 to 80 (fun v23 v24 X => v23 = .bool false ∧ v24 = .bool false ∧ (X.cell? ⟨w4.heap.size, 0, none⟩ = some (.int .i64 W) ∧ X.cell? ⟨w4.heap.size, 1, none⟩ = some (.int .u64 (LO (n))) ∧ X.cell? ⟨w4.heap.size, 2, none⟩ = some (.int .u64 (HI (n))) ∧ X.cell? ⟨w4.heap.size + 1, 0, none⟩ = some (.int .i64 W) ∧ X.cell? ⟨w4.heap.size + 1, 1, none⟩ = some (.int .u64 (LO (m))) ∧ X.cell? ⟨w4.heap.size + 1, 2, none⟩ = some (.int .u64 (HI (m))) ∧ X.cell? ⟨w4.heap.size + 1 + 1, 0, none⟩ = some (.int .i64 W) ∧ X.cell? ⟨w4.heap.size + 1 + 1, 1, none⟩ = some (.int .u64 (LO (k))) ∧ X.cell? ⟨w4.heap.size + 1 + 1, 2, none⟩ = some (.int .u64 (HI (k))) ∧ X.cell? ⟨w5.heap.size, 0, none⟩ = some (.int .i64 0) ∧ X.cell? ⟨w5.heap.size, 1, none⟩ = some (.int .u64 (LO (b01 true))) ∧ X.cell? ⟨w5.heap.size, 2, none⟩ = some (.int .u64 (HI (b01 true)))) ∧ Below w.heap.size w X)
            case first =>
              refine wp_named fun a0 ha0 => ?_
              have o15 := old_at ha0 (t := 15) rfl
              have o16 := old_at ha0 (t := 16) rfl
              have o18 := old_at ha0 (t := 18) rfl
              refine wp_region_lin (S := SS w wr.heap.size [(w4.heap.size, [.int .i64 W, .int .u64 (LO (n)), .int .u64 (HI (n))]), (w4.heap.size + 1, [.int .i64 W, .int .u64 (LO (m)), .int .u64 (HI (m))]), (w4.heap.size + 1 + 1, [.int .i64 W, .int .u64 (LO (k)), .int .u64 (HI (k))]), (w5.heap.size, [.int .i64 0, .int .u64 (LO (b01 true)), .int .u64 (HI (b01 true))])] []) [] (fun _ => 0) (by kernel_rfl) (by kernel_rfl) (by rw [← ha0]; kernel_rfl) (SS.start (by first | assumption | go_grown) ?_) ?_
              · intro p hp; simp only [List.mem_cons, List.not_mem_nil, or_false] at hp; rcases hp with rfl | rfl | rfl | rfl; all_goals exact ⟨At.three (by simp [KF1]) (by simp [KF1]) (by simp [KF1]), by simp⟩
              apply LinAll.cons0
              · intro g L a x hLi haft hS hK; have t15 := (hK.old 15 (by kernel_rfl)).trans o15; (try dsimp only at t15); refine go_in (wanted_all rfl) ?_; intro K hk; obtain ⟨c0, c1, c2⟩ := (hS.own _ (.head _)).2.get3; clear haft hK hLi; go_simp; exact hS.go hk rfl
              apply LinAll.cons0
              · intro g L a x hLi haft hS hK; have t16 := (hK.old 16 (by kernel_rfl)).trans o16; (try dsimp only at t16); refine go_in (wanted_all rfl) ?_; intro K hk; obtain ⟨c0, c1, c2⟩ := (hS.own _ (.tail _ (.head _))).2.get3; clear haft hK hLi; go_simp; exact hS.go hk rfl
              apply LinAll.cons0
              · intro g L a x hLi haft hS hK; have t71 := hK.new 0 1 _ 71 _ rfl rfl rfl (by kernel_rfl) (waits haft 0 (by kernel_rfl)); have t72 := hK.new 1 0 _ 72 _ rfl rfl rfl (by kernel_rfl) (waits haft 1 (by kernel_rfl)); (try dsimp only at t71 t72); refine go_in (wanted_all rfl) ?_; intro K hk; clear haft hK hLi; go_simp; refine (H29.out _).mono ?_; rintro e y ⟨rfl, hb⟩; exact hS.on hk hb rfl
              apply LinAll.cons0
              · intro g L a x hLi haft hS hK; have t18 := (hK.old 18 (by kernel_rfl)).trans o18; (try dsimp only at t18); refine go_in (wanted_all rfl) ?_; intro K hk; obtain ⟨c0, c1, c2⟩ := (hS.own _ (.tail _ (.tail _ (.tail _ (.head _))))).2.get3; clear haft hK hLi; go_simp; exact hS.go hk rfl
              apply LinAll.cons0
              · intro g L a x hLi haft hS hK; have t73 := hK.new 2 1 _ 73 _ rfl rfl rfl (by kernel_rfl) (waits haft 2 (by kernel_rfl)); have t74 := hK.new 3 0 _ 74 _ rfl rfl rfl (by kernel_rfl) (waits haft 3 (by kernel_rfl)); (try dsimp only at t73 t74); refine go_in (wanted_all rfl) ?_; intro K hk; clear haft hK hLi; go_simp; exact hS.go hk rfl
              apply LinAll.cons0
              · intro g L a x hLi haft hS hK; have t15 := (hK.old 15 (by kernel_rfl)).trans o15; (try dsimp only at t15); refine go_in (wanted_all rfl) ?_; intro K hk; obtain ⟨c0, c1, c2⟩ := (hS.own _ (.head _)).2.get3; clear haft hK hLi; go_simp; exact hS.go hk rfl
              apply LinAll.cons0
              · intro g L a x hLi haft hS hK; have t16 := (hK.old 16 (by kernel_rfl)).trans o16; (try dsimp only at t16); refine go_in (wanted_all rfl) ?_; intro K hk; obtain ⟨c0, c1, c2⟩ := (hS.own _ (.tail _ (.head _))).2.get3; clear haft hK hLi; go_simp; exact hS.go hk rfl
              apply LinAll.cons0
              · intro g L a x hLi haft hS hK; have t76 := hK.new 5 1 _ 76 _ rfl rfl rfl (by kernel_rfl) (waits haft 5 (by kernel_rfl)); have t77 := hK.new 6 0 _ 77 _ rfl rfl rfl (by kernel_rfl) (waits haft 6 (by kernel_rfl)); (try dsimp only at t76 t77); refine go_in (wanted_all rfl) ?_; intro K hk; clear haft hK hLi; go_simp; refine (H30.out _).mono ?_; rintro e y ⟨rfl, hb⟩; exact hS.on hk hb rfl
              apply LinAll.cons0
              · intro g L a x hLi haft hS hK; have t18 := (hK.old 18 (by kernel_rfl)).trans o18; (try dsimp only at t18); refine go_in (wanted_all rfl) ?_; intro K hk; obtain ⟨c0, c1, c2⟩ := (hS.own _ (.tail _ (.tail _ (.tail _ (.head _))))).2.get3; clear haft hK hLi; go_simp; exact hS.go hk rfl
              apply LinAll.cons0
              · intro g L a x hLi haft hS hK; have t78 := hK.new 7 1 _ 78 _ rfl rfl rfl (by kernel_rfl) (waits haft 7 (by kernel_rfl)); have t79 := hK.new 8 0 _ 79 _ rfl rfl rfl (by kernel_rfl) (waits haft 8 (by kernel_rfl)); (try dsimp only at t78 t79); refine go_in (wanted_all rfl) ?_; intro K hk; clear haft hK hLi; go_simp; exact hS.go hk rfl
              apply LinAll.cons0
              · intro g L a x hLi haft hS hK; have t75 := hK.new 4 5 _ 75 _ rfl rfl rfl (by kernel_rfl) (waits haft 4 (by kernel_rfl)); (try dsimp only at t75); refine go_in (wanted_all rfl) ?_; intro K hk; clear haft hK hLi; go_simp; exact hS.go hk rfl
              apply LinAll.cons0
              · intro g L a x hLi haft hS hK; have t80 := hK.new 9 1 _ 80 _ rfl rfl rfl (by kernel_rfl) (waits haft 9 (by kernel_rfl)); (try dsimp only at t80); refine go_in (wanted_all rfl) ?_; intro K hk; clear haft hK hLi; go_simp; exact hS.go hk rfl
              refine LinAll.nil fun g x hS => ?_
              subst ha0
              simp only [Act.put, List.setIfInBounds_toArray, List.set_cons_zero, List.set_cons_succ]
              clear o15 o16 o18
              have KL := And.intro (hS.own _ (.head _)).2.get3 (And.intro (hS.own _ (.tail _ (.head _))).2.get3 (And.intro (hS.own _ (.tail _ (.tail _ (.head _)))).2.get3 (hS.own _ (.tail _ (.tail _ (.tail _ (.head _))))).2.get3))
              have hBq := hS.below
              have hBs := hBq.size
              clear hS
              go_wp2_with fail
              go_meet
              case rel =>
                refine ⟨rfl, rfl, ⟨?_, ?_, ?_, ?_, ?_, ?_, ?_, ?_, ?_, ?_, ?_, ?_⟩, hBq⟩
                all_goals simp [KL]
            case rest =>
              clear KF1 hbl1 hbs1 H29 H30
              obtain ⟨rfl, rfl, KF1, hbl1⟩ := hcut
              have hbs1 := hbl1.size
              go_upto_region 13 with fail
              go_cut [135] from 81 to 135 (fun v135 X => v135 = .bool false ∧ (X.cell? ⟨w4.heap.size, 0, none⟩ = some (.int .i64 W) ∧ X.cell? ⟨w4.heap.size, 1, none⟩ = some (.int .u64 (LO (n))) ∧ X.cell? ⟨w4.heap.size, 2, none⟩ = some (.int .u64 (HI (n))) ∧ X.cell? ⟨w4.heap.size + 1, 0, none⟩ = some (.int .i64 W) ∧ X.cell? ⟨w4.heap.size + 1, 1, none⟩ = some (.int .u64 (LO (m))) ∧ X.cell? ⟨w4.heap.size + 1, 2, none⟩ = some (.int .u64 (HI (m))) ∧ X.cell? ⟨w4.heap.size + 1 + 1, 0, none⟩ = some (.int .i64 W) ∧ X.cell? ⟨w4.heap.size + 1 + 1, 1, none⟩ = some (.int .u64 (LO (k))) ∧ X.cell? ⟨w4.heap.size + 1 + 1, 2, none⟩ = some (.int .u64 (HI (k))) ∧ X.cell? ⟨w5.heap.size, 0, none⟩ = some (.int .i64 0) ∧ X.cell? ⟨w5.heap.size, 1, none⟩ = some (.int .u64 (LO (b01 true))) ∧ X.cell? ⟨w5.heap.size, 2, none⟩ = some (.int .u64 (HI (b01 true)))) ∧ Below w.heap.size w X)
              case first =>
                refine wp_named fun a0 ha0 => ?_
                have o15 := old_at ha0 (t := 15) rfl
                have o16 := old_at ha0 (t := 16) rfl
                have o18 := old_at ha0 (t := 18) rfl
                have o23 := old_at ha0 (t := 23) rfl
                have o24 := old_at ha0 (t := 24) rfl
                refine wp_region_lin (S := SS w wc.heap.size [(w4.heap.size, [.int .i64 W, .int .u64 (LO (n)), .int .u64 (HI (n))]), (w4.heap.size + 1, [.int .i64 W, .int .u64 (LO (m)), .int .u64 (HI (m))]), (w4.heap.size + 1 + 1, [.int .i64 W, .int .u64 (LO (k)), .int .u64 (HI (k))]), (w5.heap.size, [.int .i64 0, .int .u64 (LO (b01 true)), .int .u64 (HI (b01 true))])] []) [] (fun _ => 0) (by kernel_rfl) (by kernel_rfl) (by rw [← ha0]; kernel_rfl) (SS.start (by first | assumption | go_grown) ?_) ?_
                · intro p hp; simp only [List.mem_cons, List.not_mem_nil, or_false] at hp; rcases hp with rfl | rfl | rfl | rfl; all_goals exact ⟨At.three (by simp [KF1]) (by simp [KF1]) (by simp [KF1]), by simp⟩
                apply LinAll.cons0
                · intro g L a x hLi haft hS hK; have t23 := (hK.old 23 (by kernel_rfl)).trans o23; (try dsimp only at t23); refine go_in (wanted_all rfl) ?_; intro K hk; clear haft hK hLi; go_simp; exact hS.go hk rfl
                apply LinAll.cons0
                · intro g L a x hLi haft hS hK; have t81 := hK.new 0 0 _ 81 _ rfl rfl rfl (by kernel_rfl) (waits haft 0 (by kernel_rfl)); (try dsimp only at t81); refine go_in (wanted_all rfl) ?_; intro K hk; clear haft hK hLi; go_simp; exact hS.go hk rfl
                apply LinAll.cons0
                · intro g L a x hLi haft hS hK; have t24 := (hK.old 24 (by kernel_rfl)).trans o24; have tg := hK.new 1 0 _ 82 _ rfl rfl rfl (by kernel_rfl) (waits haft 1 (by kernel_rfl)); (try dsimp only at t24); exact go_out (wanted_at rfl rfl rfl tg rfl) ⟨rfl, hS.same rfl⟩
                apply LinAll.cons0
                · intro g L a x hLi haft hS hK; have t23 := (hK.old 23 (by kernel_rfl)).trans o23; have tg := hK.new 1 1 _ 82 _ rfl rfl rfl (by kernel_rfl) (waits haft 1 (by kernel_rfl)); (try dsimp only at t23); exact go_out (wanted_at rfl rfl rfl tg rfl) ⟨rfl, hS.same rfl⟩
                apply LinAll.cons0
                · intro g L a x hLi haft hS hK; have t83 := hK.new 2 1 _ 83 _ rfl rfl rfl (by kernel_rfl) (waits haft 2 (by kernel_rfl)); have t84 := hK.new 3 0 _ 84 _ rfl rfl rfl (by kernel_rfl) (waits haft 3 (by kernel_rfl)); have tg := hK.new 1 2 _ 82 _ rfl rfl rfl (by kernel_rfl) (waits haft 1 (by kernel_rfl)); (try dsimp only at t83 t84); exact go_out (wanted_at rfl rfl rfl tg rfl) ⟨rfl, hS.same rfl⟩
                apply LinAll.cons0
                · intro g L a x hLi haft hS hK; have t82 := hK.new 1 3 _ 82 _ rfl rfl rfl (by kernel_rfl) (waits haft 1 (by kernel_rfl)); have t85 := hK.new 4 0 _ 85 _ rfl rfl rfl (by kernel_rfl) (waits haft 4 (by kernel_rfl)); (try dsimp only at t82 t85); refine go_in (wanted_all rfl) ?_; intro K hk; clear haft hK hLi; go_simp; exact hS.go hk rfl
                apply LinAll.cons0
                · intro g L a x hLi haft hS hK; have t86 := hK.new 5 0 _ 86 _ rfl rfl rfl (by kernel_rfl) (waits haft 5 (by kernel_rfl)); (try dsimp only at t86); refine go_in (wanted_all rfl) ?_; intro K hk; clear haft hK hLi; go_simp; exact hS.go hk rfl
                apply LinAll.cons0
                · intro g L a x hLi haft hS hK; have t23 := (hK.old 23 (by kernel_rfl)).trans o23; have tg := hK.new 6 0 _ 87 _ rfl rfl rfl (by kernel_rfl) (waits haft 6 (by kernel_rfl)); (try dsimp only at t23); refine go_in (wanted_at rfl rfl rfl tg rfl) ?_; intro K hk; clear haft hK tg hLi; go_simp; exact hS.go hk rfl
                apply LinAll.cons0
                · intro g L a x hLi haft hS hK; have t16 := (hK.old 16 (by kernel_rfl)).trans o16; have tg := hK.new 6 1 _ 87 _ rfl rfl rfl (by kernel_rfl) (waits haft 6 (by kernel_rfl)); (try dsimp only at t16); refine go_in (wanted_at rfl rfl rfl tg rfl) ?_; intro K hk; obtain ⟨c0, c1, c2⟩ := (hS.own _ (.tail _ (.head _))).2.get3; clear haft hK tg hLi; go_simp; exact hS.go hk rfl
                apply LinAll.cons0
                · intro g L a x hLi haft hS hK; have t15 := (hK.old 15 (by kernel_rfl)).trans o15; have tg := hK.new 6 2 _ 87 _ rfl rfl rfl (by kernel_rfl) (waits haft 6 (by kernel_rfl)); (try dsimp only at t15); refine go_in (wanted_at rfl rfl rfl tg rfl) ?_; intro K hk; obtain ⟨c0, c1, c2⟩ := (hS.own _ (.head _)).2.get3; clear haft hK tg hLi; go_simp; exact hS.go hk rfl
                apply LinAll.cons0
                · intro g L a x hLi haft hS hK; have t89 := hK.new 8 1 _ 89 _ rfl rfl rfl (by kernel_rfl) (waits haft 8 (by kernel_rfl)); have t90 := hK.new 9 0 _ 90 _ rfl rfl rfl (by kernel_rfl) (waits haft 9 (by kernel_rfl)); have tg := hK.new 6 3 _ 87 _ rfl rfl rfl (by kernel_rfl) (waits haft 6 (by kernel_rfl)); (try dsimp only at t89 t90); refine go_in (wanted_at rfl rfl rfl tg rfl) ?_; intro K hk; clear haft hK tg hLi; go_simp; refine (H31r.out _).mono ?_; rintro e y ⟨rfl, hb⟩; exact hS.on hk hb rfl
                apply LinAll.cons0
                · intro g L a x hLi haft hS hK; have t18 := (hK.old 18 (by kernel_rfl)).trans o18; have tg := hK.new 6 4 _ 87 _ rfl rfl rfl (by kernel_rfl) (waits haft 6 (by kernel_rfl)); (try dsimp only at t18); refine go_in (wanted_at rfl rfl rfl tg rfl) ?_; intro K hk; obtain ⟨c0, c1, c2⟩ := (hS.own _ (.tail _ (.tail _ (.tail _ (.head _))))).2.get3; clear haft hK tg hLi; go_simp; exact hS.go hk rfl
                apply LinAll.cons0
                · intro g L a x hLi haft hS hK; have t91 := hK.new 10 1 _ 91 _ rfl rfl rfl (by kernel_rfl) (waits haft 10 (by kernel_rfl)); have t92 := hK.new 11 0 _ 92 _ rfl rfl rfl (by kernel_rfl) (waits haft 11 (by kernel_rfl)); have tg := hK.new 6 5 _ 87 _ rfl rfl rfl (by kernel_rfl) (waits haft 6 (by kernel_rfl)); (try dsimp only at t91 t92); refine go_in (wanted_at rfl rfl rfl tg rfl) ?_; intro K hk; clear haft hK tg hLi; go_simp; exact hS.go hk rfl
                apply LinAll.cons0
                · intro g L a x hLi haft hS hK; have t88 := hK.new 7 5 _ 88 _ rfl rfl rfl (by kernel_rfl) (waits haft 7 (by kernel_rfl)); have t93 := hK.new 12 0 _ 93 _ rfl rfl rfl (by kernel_rfl) (waits haft 12 (by kernel_rfl)); have tg := hK.new 6 6 _ 87 _ rfl rfl rfl (by kernel_rfl) (waits haft 6 (by kernel_rfl)); (try dsimp only at t88 t93); refine go_in (wanted_at rfl rfl rfl tg rfl) ?_; intro K hk; clear haft hK tg hLi; go_simp; exact hS.go hk rfl
                apply LinAll.cons0
                · intro g L a x hLi haft hS hK; have t87 := hK.new 6 7 _ 87 _ rfl rfl rfl (by kernel_rfl) (waits haft 6 (by kernel_rfl)); have t94 := hK.new 13 0 _ 94 _ rfl rfl rfl (by kernel_rfl) (waits haft 13 (by kernel_rfl)); (try dsimp only at t87 t94); refine go_in (wanted_all rfl) ?_; intro K hk; clear haft hK hLi; go_simp; exact hS.go hk rfl
                apply LinAll.cons0
                · intro g L a x hLi haft hS hK; have t95 := hK.new 14 0 _ 95 _ rfl rfl rfl (by kernel_rfl) (waits haft 14 (by kernel_rfl)); (try dsimp only at t95); refine go_in (wanted_all rfl) ?_; intro K hk; clear haft hK hLi; go_simp; exact hS.go hk rfl
                apply LinAll.cons0
                · intro g L a x hLi haft hS hK; have t24 := (hK.old 24 (by kernel_rfl)).trans o24; have tg := hK.new 15 0 _ 96 _ rfl rfl rfl (by kernel_rfl) (waits haft 15 (by kernel_rfl)); (try dsimp only at t24); refine go_in (wanted_at rfl rfl rfl tg rfl) ?_; intro K hk; clear haft hK tg hLi; go_simp; exact hS.go hk rfl
                apply LinAll.cons0
                · intro g L a x hLi haft hS hK; have t16 := (hK.old 16 (by kernel_rfl)).trans o16; have tg := hK.new 15 1 _ 96 _ rfl rfl rfl (by kernel_rfl) (waits haft 15 (by kernel_rfl)); (try dsimp only at t16); refine go_in (wanted_at rfl rfl rfl tg rfl) ?_; intro K hk; obtain ⟨c0, c1, c2⟩ := (hS.own _ (.tail _ (.head _))).2.get3; clear haft hK tg hLi; go_simp; exact hS.go hk rfl
                apply LinAll.cons0
                · intro g L a x hLi haft hS hK; have t15 := (hK.old 15 (by kernel_rfl)).trans o15; have tg := hK.new 15 2 _ 96 _ rfl rfl rfl (by kernel_rfl) (waits haft 15 (by kernel_rfl)); (try dsimp only at t15); refine go_in (wanted_at rfl rfl rfl tg rfl) ?_; intro K hk; obtain ⟨c0, c1, c2⟩ := (hS.own _ (.head _)).2.get3; clear haft hK tg hLi; go_simp; exact hS.go hk rfl
                apply LinAll.cons0
                · intro g L a x hLi haft hS hK; have t98 := hK.new 17 1 _ 98 _ rfl rfl rfl (by kernel_rfl) (waits haft 17 (by kernel_rfl)); have t99 := hK.new 18 0 _ 99 _ rfl rfl rfl (by kernel_rfl) (waits haft 18 (by kernel_rfl)); have tg := hK.new 15 3 _ 96 _ rfl rfl rfl (by kernel_rfl) (waits haft 15 (by kernel_rfl)); (try dsimp only at t98 t99); refine go_in (wanted_at rfl rfl rfl tg rfl) ?_; intro K hk; clear haft hK tg hLi; go_simp; refine (H32r.out _).mono ?_; rintro e y ⟨rfl, hb⟩; exact hS.on hk hb rfl
                apply LinAll.cons0
                · intro g L a x hLi haft hS hK; have t18 := (hK.old 18 (by kernel_rfl)).trans o18; have tg := hK.new 15 4 _ 96 _ rfl rfl rfl (by kernel_rfl) (waits haft 15 (by kernel_rfl)); (try dsimp only at t18); refine go_in (wanted_at rfl rfl rfl tg rfl) ?_; intro K hk; obtain ⟨c0, c1, c2⟩ := (hS.own _ (.tail _ (.tail _ (.tail _ (.head _))))).2.get3; clear haft hK tg hLi; go_simp; exact hS.go hk rfl
                apply LinAll.cons0
                · intro g L a x hLi haft hS hK; have t100 := hK.new 19 1 _ 100 _ rfl rfl rfl (by kernel_rfl) (waits haft 19 (by kernel_rfl)); have t101 := hK.new 20 0 _ 101 _ rfl rfl rfl (by kernel_rfl) (waits haft 20 (by kernel_rfl)); have tg := hK.new 15 5 _ 96 _ rfl rfl rfl (by kernel_rfl) (waits haft 15 (by kernel_rfl)); (try dsimp only at t100 t101); refine go_in (wanted_at rfl rfl rfl tg rfl) ?_; intro K hk; clear haft hK tg hLi; go_simp; exact hS.go hk rfl
                apply LinAll.cons0
                · intro g L a x hLi haft hS hK; have t97 := hK.new 16 5 _ 97 _ rfl rfl rfl (by kernel_rfl) (waits haft 16 (by kernel_rfl)); have t102 := hK.new 21 0 _ 102 _ rfl rfl rfl (by kernel_rfl) (waits haft 21 (by kernel_rfl)); have tg := hK.new 15 6 _ 96 _ rfl rfl rfl (by kernel_rfl) (waits haft 15 (by kernel_rfl)); (try dsimp only at t97 t102); refine go_in (wanted_at rfl rfl rfl tg rfl) ?_; intro K hk; clear haft hK tg hLi; go_simp; exact hS.go hk rfl
                apply LinAll.cons0
                · intro g L a x hLi haft hS hK; have t96 := hK.new 15 7 _ 96 _ rfl rfl rfl (by kernel_rfl) (waits haft 15 (by kernel_rfl)); have t103 := hK.new 22 0 _ 103 _ rfl rfl rfl (by kernel_rfl) (waits haft 22 (by kernel_rfl)); (try dsimp only at t96 t103); refine go_in (wanted_all rfl) ?_; intro K hk; clear haft hK hLi; go_simp; exact hS.go hk rfl
                apply LinAll.cons0
                · intro g L a x hLi haft hS hK; have t104 := hK.new 23 0 _ 104 _ rfl rfl rfl (by kernel_rfl) (waits haft 23 (by kernel_rfl)); (try dsimp only at t104); refine go_in (wanted_all rfl) ?_; intro K hk; clear haft hK hLi; go_simp; exact hS.go hk rfl
                apply LinAll.cons0
                · intro g L a x hLi haft hS hK; have t24 := (hK.old 24 (by kernel_rfl)).trans o24; have tg := hK.new 24 0 _ 105 _ rfl rfl rfl (by kernel_rfl) (waits haft 24 (by kernel_rfl)); (try dsimp only at t24); refine go_in (wanted_at rfl rfl rfl tg rfl) ?_; intro K hk; clear haft hK tg hLi; go_simp; exact hS.go hk rfl
                apply LinAll.cons0
                · intro g L a x hLi haft hS hK; have t15 := (hK.old 15 (by kernel_rfl)).trans o15; have tg := hK.new 24 1 _ 105 _ rfl rfl rfl (by kernel_rfl) (waits haft 24 (by kernel_rfl)); (try dsimp only at t15); refine go_in (wanted_at rfl rfl rfl tg rfl) ?_; intro K hk; obtain ⟨c0, c1, c2⟩ := (hS.own _ (.head _)).2.get3; clear haft hK tg hLi; go_simp; exact hS.go hk rfl
                apply LinAll.cons0
                · intro g L a x hLi haft hS hK; have t16 := (hK.old 16 (by kernel_rfl)).trans o16; have tg := hK.new 24 2 _ 105 _ rfl rfl rfl (by kernel_rfl) (waits haft 24 (by kernel_rfl)); (try dsimp only at t16); refine go_in (wanted_at rfl rfl rfl tg rfl) ?_; intro K hk; obtain ⟨c0, c1, c2⟩ := (hS.own _ (.tail _ (.head _))).2.get3; clear haft hK tg hLi; go_simp; exact hS.go hk rfl
                apply LinAll.cons0
                · intro g L a x hLi haft hS hK; have t107 := hK.new 26 1 _ 107 _ rfl rfl rfl (by kernel_rfl) (waits haft 26 (by kernel_rfl)); have t108 := hK.new 27 0 _ 108 _ rfl rfl rfl (by kernel_rfl) (waits haft 27 (by kernel_rfl)); have tg := hK.new 24 3 _ 105 _ rfl rfl rfl (by kernel_rfl) (waits haft 24 (by kernel_rfl)); (try dsimp only at t107 t108); refine go_in (wanted_at rfl rfl rfl tg rfl) ?_; intro K hk; clear haft hK tg hLi; go_simp; refine (H31.out _).mono ?_; rintro e y ⟨rfl, hb⟩; exact hS.on hk hb rfl
                apply LinAll.cons0
                · intro g L a x hLi haft hS hK; have t18 := (hK.old 18 (by kernel_rfl)).trans o18; have tg := hK.new 24 4 _ 105 _ rfl rfl rfl (by kernel_rfl) (waits haft 24 (by kernel_rfl)); (try dsimp only at t18); refine go_in (wanted_at rfl rfl rfl tg rfl) ?_; intro K hk; obtain ⟨c0, c1, c2⟩ := (hS.own _ (.tail _ (.tail _ (.tail _ (.head _))))).2.get3; clear haft hK tg hLi; go_simp; exact hS.go hk rfl
                apply LinAll.cons0
                · intro g L a x hLi haft hS hK; have t109 := hK.new 28 1 _ 109 _ rfl rfl rfl (by kernel_rfl) (waits haft 28 (by kernel_rfl)); have t110 := hK.new 29 0 _ 110 _ rfl rfl rfl (by kernel_rfl) (waits haft 29 (by kernel_rfl)); have tg := hK.new 24 5 _ 105 _ rfl rfl rfl (by kernel_rfl) (waits haft 24 (by kernel_rfl)); (try dsimp only at t109 t110); refine go_in (wanted_at rfl rfl rfl tg rfl) ?_; intro K hk; clear haft hK tg hLi; go_simp; exact hS.go hk rfl
                apply LinAll.cons0
                · intro g L a x hLi haft hS hK; have t106 := hK.new 25 5 _ 106 _ rfl rfl rfl (by kernel_rfl) (waits haft 25 (by kernel_rfl)); have t111 := hK.new 30 0 _ 111 _ rfl rfl rfl (by kernel_rfl) (waits haft 30 (by kernel_rfl)); have tg := hK.new 24 6 _ 105 _ rfl rfl rfl (by kernel_rfl) (waits haft 24 (by kernel_rfl)); (try dsimp only at t106 t111); refine go_in (wanted_at rfl rfl rfl tg rfl) ?_; intro K hk; clear haft hK tg hLi; go_simp; exact hS.go hk rfl
                apply LinAll.cons0
                · intro g L a x hLi haft hS hK; have t105 := hK.new 24 7 _ 105 _ rfl rfl rfl (by kernel_rfl) (waits haft 24 (by kernel_rfl)); have t112 := hK.new 31 0 _ 112 _ rfl rfl rfl (by kernel_rfl) (waits haft 31 (by kernel_rfl)); (try dsimp only at t105 t112); refine go_in (wanted_all rfl) ?_; intro K hk; clear haft hK hLi; go_simp; exact hS.go hk rfl
                apply LinAll.cons0
                · intro g L a x hLi haft hS hK; have t113 := hK.new 32 0 _ 113 _ rfl rfl rfl (by kernel_rfl) (waits haft 32 (by kernel_rfl)); (try dsimp only at t113); refine go_in (wanted_all rfl) ?_; intro K hk; clear haft hK hLi; go_simp; exact hS.go hk rfl
                apply LinAll.cons0
                · intro g L a x hLi haft hS hK; have t15 := (hK.old 15 (by kernel_rfl)).trans o15; have tg := hK.new 33 0 _ 114 _ rfl rfl rfl (by kernel_rfl) (waits haft 33 (by kernel_rfl)); (try dsimp only at t15); refine go_in (wanted_at rfl rfl rfl tg rfl) ?_; intro K hk; obtain ⟨c0, c1, c2⟩ := (hS.own _ (.head _)).2.get3; clear haft hK tg hLi; go_simp; exact hS.go hk rfl
                apply LinAll.cons0
                · intro g L a x hLi haft hS hK; have t16 := (hK.old 16 (by kernel_rfl)).trans o16; have tg := hK.new 33 1 _ 114 _ rfl rfl rfl (by kernel_rfl) (waits haft 33 (by kernel_rfl)); (try dsimp only at t16); refine go_in (wanted_at rfl rfl rfl tg rfl) ?_; intro K hk; obtain ⟨c0, c1, c2⟩ := (hS.own _ (.tail _ (.head _))).2.get3; clear haft hK tg hLi; go_simp; exact hS.go hk rfl
                apply LinAll.cons0
                · intro g L a x hLi haft hS hK; have t115 := hK.new 34 1 _ 115 _ rfl rfl rfl (by kernel_rfl) (waits haft 34 (by kernel_rfl)); have t116 := hK.new 35 0 _ 116 _ rfl rfl rfl (by kernel_rfl) (waits haft 35 (by kernel_rfl)); have tg := hK.new 33 2 _ 114 _ rfl rfl rfl (by kernel_rfl) (waits haft 33 (by kernel_rfl)); (try dsimp only at t115 t116); refine go_in (wanted_at rfl rfl rfl tg rfl) ?_; intro K hk; clear haft hK tg hLi; go_simp; refine (H8.out _).mono ?_; rintro e y ⟨rfl, hb⟩; exact hS.on hk hb rfl
                apply LinAll.cons0
                · intro g L a x hLi haft hS hK; have t18 := (hK.old 18 (by kernel_rfl)).trans o18; have tg := hK.new 33 3 _ 114 _ rfl rfl rfl (by kernel_rfl) (waits haft 33 (by kernel_rfl)); (try dsimp only at t18); refine go_in (wanted_at rfl rfl rfl tg rfl) ?_; intro K hk; obtain ⟨c0, c1, c2⟩ := (hS.own _ (.tail _ (.tail _ (.tail _ (.head _))))).2.get3; clear haft hK tg hLi; go_simp; exact hS.go hk rfl
                apply LinAll.cons0
                · intro g L a x hLi haft hS hK; have t117 := hK.new 36 1 _ 117 _ rfl rfl rfl (by kernel_rfl) (waits haft 36 (by kernel_rfl)); have t118 := hK.new 37 0 _ 118 _ rfl rfl rfl (by kernel_rfl) (waits haft 37 (by kernel_rfl)); have tg := hK.new 33 4 _ 114 _ rfl rfl rfl (by kernel_rfl) (waits haft 33 (by kernel_rfl)); (try dsimp only at t117 t118); refine go_in (wanted_at rfl rfl rfl tg rfl) ?_; intro K hk; clear haft hK tg hLi; go_simp; exact hS.go hk rfl
                apply LinAll.cons0
                · intro g L a x hLi haft hS hK; have t15 := (hK.old 15 (by kernel_rfl)).trans o15; have tg := hK.new 33 5 _ 114 _ rfl rfl rfl (by kernel_rfl) (waits haft 33 (by kernel_rfl)); (try dsimp only at t15); refine go_in (wanted_at rfl rfl rfl tg rfl) ?_; intro K hk; obtain ⟨c0, c1, c2⟩ := (hS.own _ (.head _)).2.get3; clear haft hK tg hLi; go_simp; exact hS.go hk rfl
                apply LinAll.cons0
                · intro g L a x hLi haft hS hK; have t16 := (hK.old 16 (by kernel_rfl)).trans o16; have tg := hK.new 33 6 _ 114 _ rfl rfl rfl (by kernel_rfl) (waits haft 33 (by kernel_rfl)); (try dsimp only at t16); refine go_in (wanted_at rfl rfl rfl tg rfl) ?_; intro K hk; obtain ⟨c0, c1, c2⟩ := (hS.own _ (.tail _ (.head _))).2.get3; clear haft hK tg hLi; go_simp; exact hS.go hk rfl
                apply LinAll.cons0
                · intro g L a x hLi haft hS hK; have t120 := hK.new 39 1 _ 120 _ rfl rfl rfl (by kernel_rfl) (waits haft 39 (by kernel_rfl)); have t121 := hK.new 40 0 _ 121 _ rfl rfl rfl (by kernel_rfl) (waits haft 40 (by kernel_rfl)); have tg := hK.new 33 7 _ 114 _ rfl rfl rfl (by kernel_rfl) (waits haft 33 (by kernel_rfl)); (try dsimp only at t120 t121); refine go_in (wanted_at rfl rfl rfl tg rfl) ?_; intro K hk; clear haft hK tg hLi; go_simp; exact hS.go hk rfl
                apply LinAll.cons0
                · intro g L a x hLi haft hS hK; have t119 := hK.new 38 3 _ 119 _ rfl rfl rfl (by kernel_rfl) (waits haft 38 (by kernel_rfl)); have t122 := hK.new 41 0 _ 122 _ rfl rfl rfl (by kernel_rfl) (waits haft 41 (by kernel_rfl)); have tg := hK.new 33 8 _ 114 _ rfl rfl rfl (by kernel_rfl) (waits haft 33 (by kernel_rfl)); (try dsimp only at t119 t122); refine go_in (wanted_at rfl rfl rfl tg rfl) ?_; intro K hk; clear haft hK tg hLi; go_simp; exact hS.go hk rfl
                apply LinAll.cons0
                · intro g L a x hLi haft hS hK; have t114 := hK.new 33 9 _ 114 _ rfl rfl rfl (by kernel_rfl) (waits haft 33 (by kernel_rfl)); have t123 := hK.new 42 0 _ 123 _ rfl rfl rfl (by kernel_rfl) (waits haft 42 (by kernel_rfl)); (try dsimp only at t114 t123); refine go_in (wanted_all rfl) ?_; intro K hk; clear haft hK hLi; go_simp; exact hS.go hk rfl
                apply LinAll.cons0
                · intro g L a x hLi haft hS hK; have t124 := hK.new 43 0 _ 124 _ rfl rfl rfl (by kernel_rfl) (waits haft 43 (by kernel_rfl)); (try dsimp only at t124); refine go_in (wanted_all rfl) ?_; intro K hk; clear haft hK hLi; go_simp; exact hS.go hk rfl
                apply LinAll.cons0
                · intro g L a x hLi haft hS hK; have t15 := (hK.old 15 (by kernel_rfl)).trans o15; have tg := hK.new 44 0 _ 125 _ rfl rfl rfl (by kernel_rfl) (waits haft 44 (by kernel_rfl)); (try dsimp only at t15); refine go_in (wanted_at rfl rfl rfl tg rfl) ?_; intro K hk; obtain ⟨c0, c1, c2⟩ := (hS.own _ (.head _)).2.get3; clear haft hK tg hLi; go_simp; exact hS.go hk rfl
                apply LinAll.cons0
                · intro g L a x hLi haft hS hK; have t16 := (hK.old 16 (by kernel_rfl)).trans o16; have tg := hK.new 44 1 _ 125 _ rfl rfl rfl (by kernel_rfl) (waits haft 44 (by kernel_rfl)); (try dsimp only at t16); refine go_in (wanted_at rfl rfl rfl tg rfl) ?_; intro K hk; obtain ⟨c0, c1, c2⟩ := (hS.own _ (.tail _ (.head _))).2.get3; clear haft hK tg hLi; go_simp; exact hS.go hk rfl
                apply LinAll.cons0
                · intro g L a x hLi haft hS hK; have t126 := hK.new 45 1 _ 126 _ rfl rfl rfl (by kernel_rfl) (waits haft 45 (by kernel_rfl)); have t127 := hK.new 46 0 _ 127 _ rfl rfl rfl (by kernel_rfl) (waits haft 46 (by kernel_rfl)); have tg := hK.new 44 2 _ 125 _ rfl rfl rfl (by kernel_rfl) (waits haft 44 (by kernel_rfl)); (try dsimp only at t126 t127); refine go_in (wanted_at rfl rfl rfl tg rfl) ?_; intro K hk; clear haft hK tg hLi; go_simp; refine (H37.out _).mono ?_; rintro e y ⟨rfl, hb⟩; exact hS.on hk hb rfl
                apply LinAll.cons0
                · intro g L a x hLi haft hS hK; have t128 := hK.new 47 0 _ 128 _ rfl rfl rfl (by kernel_rfl) (waits haft 47 (by kernel_rfl)); have tg := hK.new 44 3 _ 125 _ rfl rfl rfl (by kernel_rfl) (waits haft 44 (by kernel_rfl)); (try dsimp only at t128); refine go_in (wanted_at rfl rfl rfl tg rfl) ?_; intro K hk; clear haft hK tg hLi; go_simp; exact hS.go hk rfl
                apply LinAll.cons0
                · intro g L a x hLi haft hS hK; have t129 := hK.new 48 0 _ 129 _ rfl rfl rfl (by kernel_rfl) (waits haft 48 (by kernel_rfl)); have tg := hK.new 44 4 _ 125 _ rfl rfl rfl (by kernel_rfl) (waits haft 44 (by kernel_rfl)); (try dsimp only at t129); refine go_in (wanted_at rfl rfl rfl tg rfl) ?_; intro K hk; clear haft hK tg hLi; go_simp; exact hS.go hk rfl
                apply LinAll.cons0
                · intro g L a x hLi haft hS hK; have t15 := (hK.old 15 (by kernel_rfl)).trans o15; have tg := hK.new 44 5 _ 125 _ rfl rfl rfl (by kernel_rfl) (waits haft 44 (by kernel_rfl)); (try dsimp only at t15); refine go_in (wanted_at rfl rfl rfl tg rfl) ?_; intro K hk; obtain ⟨c0, c1, c2⟩ := (hS.own _ (.head _)).2.get3; clear haft hK tg hLi; go_simp; exact hS.go hk rfl
                apply LinAll.cons0
                · intro g L a x hLi haft hS hK; have t16 := (hK.old 16 (by kernel_rfl)).trans o16; have tg := hK.new 44 6 _ 125 _ rfl rfl rfl (by kernel_rfl) (waits haft 44 (by kernel_rfl)); (try dsimp only at t16); refine go_in (wanted_at rfl rfl rfl tg rfl) ?_; intro K hk; obtain ⟨c0, c1, c2⟩ := (hS.own _ (.tail _ (.head _))).2.get3; clear haft hK tg hLi; go_simp; exact hS.go hk rfl
                apply LinAll.cons0
                · intro g L a x hLi haft hS hK; have t131 := hK.new 50 1 _ 131 _ rfl rfl rfl (by kernel_rfl) (waits haft 50 (by kernel_rfl)); have t132 := hK.new 51 0 _ 132 _ rfl rfl rfl (by kernel_rfl) (waits haft 51 (by kernel_rfl)); have tg := hK.new 44 7 _ 125 _ rfl rfl rfl (by kernel_rfl) (waits haft 44 (by kernel_rfl)); (try dsimp only at t131 t132); refine go_in (wanted_at rfl rfl rfl tg rfl) ?_; intro K hk; clear haft hK tg hLi; go_simp; exact hS.go hk rfl
                apply LinAll.cons0
                · intro g L a x hLi haft hS hK; have t130 := hK.new 49 3 _ 130 _ rfl rfl rfl (by kernel_rfl) (waits haft 49 (by kernel_rfl)); have t133 := hK.new 52 0 _ 133 _ rfl rfl rfl (by kernel_rfl) (waits haft 52 (by kernel_rfl)); have tg := hK.new 44 8 _ 125 _ rfl rfl rfl (by kernel_rfl) (waits haft 44 (by kernel_rfl)); (try dsimp only at t130 t133); refine go_in (wanted_at rfl rfl rfl tg rfl) ?_; intro K hk; clear haft hK tg hLi; go_simp; exact hS.go hk rfl
                apply LinAll.cons0
                · intro g L a x hLi haft hS hK; have t125 := hK.new 44 9 _ 125 _ rfl rfl rfl (by kernel_rfl) (waits haft 44 (by kernel_rfl)); have t134 := hK.new 53 0 _ 134 _ rfl rfl rfl (by kernel_rfl) (waits haft 53 (by kernel_rfl)); (try dsimp only at t125 t134); refine go_in (wanted_all rfl) ?_; intro K hk; clear haft hK hLi; go_simp; exact hS.go hk rfl
                refine LinAll.nil fun g x hS => ?_
                subst ha0
                simp only [Act.put, List.setIfInBounds_toArray, List.set_cons_zero, List.set_cons_succ]
                clear o15 o16 o18 o23 o24
                have KL := And.intro (hS.own _ (.head _)).2.get3 (And.intro (hS.own _ (.tail _ (.head _))).2.get3 (And.intro (hS.own _ (.tail _ (.tail _ (.head _)))).2.get3 (hS.own _ (.tail _ (.tail _ (.tail _ (.head _))))).2.get3))
                have hBq := hS.below
                have hBs := hBq.size
                clear hS
                go_wp2_with fail
                go_meet
                case rel =>
                  refine ⟨rfl, ⟨?_, ?_, ?_, ?_, ?_, ?_, ?_, ?_, ?_, ?_, ?_, ?_⟩, hBq⟩
                  all_goals simp [KL]
              case rest =>
                clear KF1 hbl1 hbs1 H31r H32r H31 H8 H37
                obtain ⟨rfl, KF1, hbl1⟩ := hcut
                have hbs1 := hbl1.size
                go_upto_region 15 with fail
                go_cut [150] from 136 to 150 (fun v150 X => v150 = .bool false ∧ (X.cell? ⟨w4.heap.size, 0, none⟩ = some (.int .i64 W) ∧ X.cell? ⟨w4.heap.size, 1, none⟩ = some (.int .u64 (LO (n))) ∧ X.cell? ⟨w4.heap.size, 2, none⟩ = some (.int .u64 (HI (n))) ∧ X.cell? ⟨w4.heap.size + 1, 0, none⟩ = some (.int .i64 W) ∧ X.cell? ⟨w4.heap.size + 1, 1, none⟩ = some (.int .u64 (LO (m))) ∧ X.cell? ⟨w4.heap.size + 1, 2, none⟩ = some (.int .u64 (HI (m))) ∧ X.cell? ⟨w4.heap.size + 1 + 1, 0, none⟩ = some (.int .i64 W) ∧ X.cell? ⟨w4.heap.size + 1 + 1, 1, none⟩ = some (.int .u64 (LO (k))) ∧ X.cell? ⟨w4.heap.size + 1 + 1, 2, none⟩ = some (.int .u64 (HI (k))) ∧ X.cell? ⟨w5.heap.size, 0, none⟩ = some (.int .i64 0) ∧ X.cell? ⟨w5.heap.size, 1, none⟩ = some (.int .u64 (LO (b01 true))) ∧ X.cell? ⟨w5.heap.size, 2, none⟩ = some (.int .u64 (HI (b01 true)))) ∧ Below w.heap.size w X)
                case first =>
                  refine wp_named fun a0 ha0 => ?_
                  have o15 := old_at ha0 (t := 15) rfl
                  have o16 := old_at ha0 (t := 16) rfl
                  have o17 := old_at ha0 (t := 17) rfl
                  have o18 := old_at ha0 (t := 18) rfl
                  have o24 := old_at ha0 (t := 24) rfl
                  refine wp_region_lin (S := SS w wc.heap.size [(w4.heap.size, [.int .i64 W, .int .u64 (LO (n)), .int .u64 (HI (n))]), (w4.heap.size + 1, [.int .i64 W, .int .u64 (LO (m)), .int .u64 (HI (m))]), (w4.heap.size + 1 + 1, [.int .i64 W, .int .u64 (LO (k)), .int .u64 (HI (k))]), (w5.heap.size, [.int .i64 0, .int .u64 (LO (b01 true)), .int .u64 (HI (b01 true))])] []) [] (fun _ => 0) (by kernel_rfl) (by kernel_rfl) (by rw [← ha0]; kernel_rfl) (SS.start (by first | assumption | go_grown) ?_) ?_
                  · intro p hp; simp only [List.mem_cons, List.not_mem_nil, or_false] at hp; rcases hp with rfl | rfl | rfl | rfl; all_goals exact ⟨At.three (by simp [KF1]) (by simp [KF1]) (by simp [KF1]), by simp⟩
                  apply LinAll.cons0
                  · intro g L a x hLi haft hS hK; have t24 := (hK.old 24 (by kernel_rfl)).trans o24; (try dsimp only at t24); refine go_in (wanted_all rfl) ?_; intro K hk; clear haft hK hLi; go_simp; exact hS.go hk rfl
                  apply LinAll.cons0
                  · intro g L a x hLi haft hS hK; have t136 := hK.new 0 0 _ 136 _ rfl rfl rfl (by kernel_rfl) (waits haft 0 (by kernel_rfl)); (try dsimp only at t136); refine go_in (wanted_all rfl) ?_; intro K hk; clear haft hK hLi; go_simp; exact hS.go hk rfl
                  apply LinAll.cons0
                  · intro g L a x hLi haft hS hK; have t16 := (hK.old 16 (by kernel_rfl)).trans o16; have tg := hK.new 1 0 _ 137 _ rfl rfl rfl (by kernel_rfl) (waits haft 1 (by kernel_rfl)); (try dsimp only at t16); exact go_out (wanted_at rfl rfl rfl tg rfl) ⟨rfl, hS.same rfl⟩
                  apply LinAll.cons0
                  · intro g L a x hLi haft hS hK; have t17 := (hK.old 17 (by kernel_rfl)).trans o17; have tg := hK.new 1 1 _ 137 _ rfl rfl rfl (by kernel_rfl) (waits haft 1 (by kernel_rfl)); (try dsimp only at t17); exact go_out (wanted_at rfl rfl rfl tg rfl) ⟨rfl, hS.same rfl⟩
                  apply LinAll.cons0
                  · intro g L a x hLi haft hS hK; have t138 := hK.new 2 1 _ 138 _ rfl rfl rfl (by kernel_rfl) (waits haft 2 (by kernel_rfl)); have t139 := hK.new 3 0 _ 139 _ rfl rfl rfl (by kernel_rfl) (waits haft 3 (by kernel_rfl)); have tg := hK.new 1 2 _ 137 _ rfl rfl rfl (by kernel_rfl) (waits haft 1 (by kernel_rfl)); (try dsimp only at t138 t139); exact go_out (wanted_at rfl rfl rfl tg rfl) ⟨rfl, hS.same rfl⟩
                  apply LinAll.cons0
                  · intro g L a x hLi haft hS hK; have t18 := (hK.old 18 (by kernel_rfl)).trans o18; have tg := hK.new 1 3 _ 137 _ rfl rfl rfl (by kernel_rfl) (waits haft 1 (by kernel_rfl)); (try dsimp only at t18); exact go_out (wanted_at rfl rfl rfl tg rfl) ⟨rfl, hS.same rfl⟩
                  apply LinAll.cons0
                  · intro g L a x hLi haft hS hK; have t140 := hK.new 4 1 _ 140 _ rfl rfl rfl (by kernel_rfl) (waits haft 4 (by kernel_rfl)); have t141 := hK.new 5 0 _ 141 _ rfl rfl rfl (by kernel_rfl) (waits haft 5 (by kernel_rfl)); have tg := hK.new 1 4 _ 137 _ rfl rfl rfl (by kernel_rfl) (waits haft 1 (by kernel_rfl)); (try dsimp only at t140 t141); exact go_out (wanted_at rfl rfl rfl tg rfl) ⟨rfl, hS.same rfl⟩
                  apply LinAll.cons0
                  · intro g L a x hLi haft hS hK; have t137 := hK.new 1 5 _ 137 _ rfl rfl rfl (by kernel_rfl) (waits haft 1 (by kernel_rfl)); have t142 := hK.new 6 0 _ 142 _ rfl rfl rfl (by kernel_rfl) (waits haft 6 (by kernel_rfl)); (try dsimp only at t137 t142); refine go_in (wanted_all rfl) ?_; intro K hk; clear haft hK hLi; go_simp; exact hS.go hk rfl
                  apply LinAll.cons0
                  · intro g L a x hLi haft hS hK; have t143 := hK.new 7 0 _ 143 _ rfl rfl rfl (by kernel_rfl) (waits haft 7 (by kernel_rfl)); (try dsimp only at t143); refine go_in (wanted_all rfl) ?_; intro K hk; clear haft hK hLi; go_simp; exact hS.go hk rfl
                  apply LinAll.cons0
                  · intro g L a x hLi haft hS hK; have t15 := (hK.old 15 (by kernel_rfl)).trans o15; have tg := hK.new 8 0 _ 144 _ rfl rfl rfl (by kernel_rfl) (waits haft 8 (by kernel_rfl)); (try dsimp only at t15); exact go_out (wanted_at rfl rfl rfl tg rfl) ⟨rfl, hS.same rfl⟩
                  apply LinAll.cons0
                  · intro g L a x hLi haft hS hK; have t17 := (hK.old 17 (by kernel_rfl)).trans o17; have tg := hK.new 8 1 _ 144 _ rfl rfl rfl (by kernel_rfl) (waits haft 8 (by kernel_rfl)); (try dsimp only at t17); exact go_out (wanted_at rfl rfl rfl tg rfl) ⟨rfl, hS.same rfl⟩
                  apply LinAll.cons0
                  · intro g L a x hLi haft hS hK; have t145 := hK.new 9 1 _ 145 _ rfl rfl rfl (by kernel_rfl) (waits haft 9 (by kernel_rfl)); have t146 := hK.new 10 0 _ 146 _ rfl rfl rfl (by kernel_rfl) (waits haft 10 (by kernel_rfl)); have tg := hK.new 8 2 _ 144 _ rfl rfl rfl (by kernel_rfl) (waits haft 8 (by kernel_rfl)); (try dsimp only at t145 t146); exact go_out (wanted_at rfl rfl rfl tg rfl) ⟨rfl, hS.same rfl⟩
                  apply LinAll.cons0
                  · intro g L a x hLi haft hS hK; have t18 := (hK.old 18 (by kernel_rfl)).trans o18; have tg := hK.new 8 3 _ 144 _ rfl rfl rfl (by kernel_rfl) (waits haft 8 (by kernel_rfl)); (try dsimp only at t18); exact go_out (wanted_at rfl rfl rfl tg rfl) ⟨rfl, hS.same rfl⟩
                  apply LinAll.cons0
                  · intro g L a x hLi haft hS hK; have t147 := hK.new 11 1 _ 147 _ rfl rfl rfl (by kernel_rfl) (waits haft 11 (by kernel_rfl)); have t148 := hK.new 12 0 _ 148 _ rfl rfl rfl (by kernel_rfl) (waits haft 12 (by kernel_rfl)); have tg := hK.new 8 4 _ 144 _ rfl rfl rfl (by kernel_rfl) (waits haft 8 (by kernel_rfl)); (try dsimp only at t147 t148); exact go_out (wanted_at rfl rfl rfl tg rfl) ⟨rfl, hS.same rfl⟩
                  apply LinAll.cons0
                  · intro g L a x hLi haft hS hK; have t144 := hK.new 8 5 _ 144 _ rfl rfl rfl (by kernel_rfl) (waits haft 8 (by kernel_rfl)); have t149 := hK.new 13 0 _ 149 _ rfl rfl rfl (by kernel_rfl) (waits haft 13 (by kernel_rfl)); (try dsimp only at t144 t149); refine go_in (wanted_all rfl) ?_; intro K hk; clear haft hK hLi; go_simp; exact hS.go hk rfl
                  refine LinAll.nil fun g x hS => ?_
                  subst ha0
                  simp only [Act.put, List.setIfInBounds_toArray, List.set_cons_zero, List.set_cons_succ]
                  clear o15 o16 o17 o18 o24
                  have KL := And.intro (hS.own _ (.head _)).2.get3 (And.intro (hS.own _ (.tail _ (.head _))).2.get3 (And.intro (hS.own _ (.tail _ (.tail _ (.head _)))).2.get3 (hS.own _ (.tail _ (.tail _ (.tail _ (.head _))))).2.get3))
                  have hBq := hS.below
                  have hBs := hBq.size
                  clear hS
                  go_wp2_with fail
                  go_meet
                  case rel =>
                    refine ⟨rfl, ⟨?_, ?_, ?_, ?_, ?_, ?_, ?_, ?_, ?_, ?_, ?_, ?_⟩, hBq⟩
                    all_goals simp [KL]
                case rest =>
                  clear KF1 hbl1 hbs1
                  obtain ⟨rfl, KF1, hbl1⟩ := hcut
                  have hbs1 := hbl1.size
                  go_wp2_with fail
                  go_ret
                  exact ⟨rfl, by go_grown⟩
end Go.Proofs.Ytcfbabgffhfkdaa
