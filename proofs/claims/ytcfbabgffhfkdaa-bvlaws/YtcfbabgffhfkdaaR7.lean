/- The walk of BvLaws. -/
import Derived.Deep.CutRange
import Derived.Test.YtcfbabgffhfkdaaJD
import Derived.Test.YtcfbabgffhfkdaaLin2
import Derived.Test.YtcfbabgffhfkdaaQ6
import Derived.Test.YtcfbabgffhfkdaaP1
namespace Go.Proofs.Ytcfbabgffhfkdaa
open Go.RowKit
set_option linter.unusedSimpArgs false
set_option linter.unusedVariables false

set_option maxRecDepth 100000 in
set_option maxHeartbeats 8000000 in
theorem walk_laws (HK : ∀ wx, Calls Try.prog 9 #[] wx fun e w' => e = .returned (.bool true) ∧ Below wx.heap.size wx w') (a0 a1 a2 a3 a4 a5 a6 : Int) (w0 : (Lit.int .i64 a0).wf = true) (w1 : (Lit.int .u64 a1).wf = true) (w2 : (Lit.int .u64 a2).wf = true) (w3 : (Lit.int .u64 a3).wf = true) (w4 : (Lit.int .u64 a4).wf = true) (w5 : (Lit.int .u64 a5).wf = true) (w6 : (Lit.int .u64 a6).wf = true) (w : World) :
    Calls Try.prog 7 #[.int .i64 a0, .int .u64 a1, .int .u64 a2, .int .u64 a3, .int .u64 a4, .int .u64 a5, .int .u64 a6] w fun e w' => e = .returned (.bool true) ∧ Below w.heap.size w w' := by
  obtain ⟨h1, h2, hn, HA⟩ := word_of w0 w1 w2
  obtain ⟨-, -, hm, HB⟩ := word_of w0 w3 w4
  obtain ⟨-, -, hk, HC⟩ := word_of w0 w5 w6
  generalize wnum a0 a1 a2 = n at *
  generalize wnum a0 a3 a4 = m at *
  generalize wnum a0 a5 a6 = k at *
  generalize wdt a0 = W at *
  clear w0 w1 w2 w3 w4 w5 w6
  have h1W : 1 < 2 ^ W := Nat.one_lt_two_pow (by omega)
  obtain ⟨NA, hNA⟩ : ∃ x, x = 2 ^ W - 1 - n := ⟨_, rfl⟩
  obtain ⟨NB, hNB⟩ : ∃ x, x = 2 ^ W - 1 - m := ⟨_, rfl⟩
  obtain ⟨NX, hNX⟩ : ∃ x, x = 2 ^ W - 1 - lowop 2 W n m := ⟨_, rfl⟩
  obtain ⟨GA, hGA⟩ : ∃ x, x = neg W n := ⟨_, rfl⟩
  obtain ⟨GB, hGB⟩ : ∃ x, x = neg W m := ⟨_, rfl⟩
  have lNA : NA < 2 ^ W := by rw [hNA]; exact turn_lt n W
  have lNB : NB < 2 ^ W := by rw [hNB]; exact turn_lt m W
  have lGB : GB < 2 ^ W := by rw [hGB]; exact neg_lt W m
  have HNA : Hid (∀ wx, Calls Try.prog 35 #[.int .i64 10, .agg #[.int .i64 W, .int .u64 (LO (n)), .int .u64 (HI (n))]] wx fun e w' => e = .returned (.agg #[.int .i64 W, .int .u64 (LO (NA)), .int .u64 (HI (NA))]) ∧ Below wx.heap.size wx w') := fun wx => by rw [hNA]; exact lawone_not (Wd.mk' h1 h2 hn) wx
  have HNB : Hid (∀ wx, Calls Try.prog 35 #[.int .i64 10, .agg #[.int .i64 W, .int .u64 (LO (m)), .int .u64 (HI (m))]] wx fun e w' => e = .returned (.agg #[.int .i64 W, .int .u64 (LO (NB)), .int .u64 (HI (NB))]) ∧ Below wx.heap.size wx w') := fun wx => by rw [hNB]; exact lawone_not (Wd.mk' h1 h2 hm) wx
  have HNX : Hid (∀ wx, Calls Try.prog 35 #[.int .i64 10, .agg #[.int .i64 W, .int .u64 (LO (lowop 2 W n m)), .int .u64 (HI (lowop 2 W n m))]] wx fun e w' => e = .returned (.agg #[.int .i64 W, .int .u64 (LO (NX)), .int .u64 (HI (NX))]) ∧ Below wx.heap.size wx w') := fun wx => by rw [hNX]; exact lawone_not (Wd.mk' h1 h2 (lowop_lt hn hm)) wx
  have HGA : Hid (∀ wx, Calls Try.prog 35 #[.int .i64 11, .agg #[.int .i64 W, .int .u64 (LO (n)), .int .u64 (HI (n))]] wx fun e w' => e = .returned (.agg #[.int .i64 W, .int .u64 (LO (GA)), .int .u64 (HI (GA))]) ∧ Below wx.heap.size wx w') := fun wx => by rw [hGA]; exact lawone_neg (Wd.mk' h1 h2 hn) wx
  have HGB : Hid (∀ wx, Calls Try.prog 35 #[.int .i64 11, .agg #[.int .i64 W, .int .u64 (LO (m)), .int .u64 (HI (m))]] wx fun e w' => e = .returned (.agg #[.int .i64 W, .int .u64 (LO (GB)), .int .u64 (HI (GB))]) ∧ Below wx.heap.size wx w') := fun wx => by rw [hGB]; exact lawone_neg (Wd.mk' h1 h2 hm) wx
  have HN1 : Hid (∀ wx, Calls Try.prog 34 #[.int .i64 18, .agg #[.int .i64 W, .int .u64 (LO (NA)), .int .u64 (HI (NA))], .agg #[.int .i64 W, .int .u64 1, .int .u64 0]] wx fun e w' => e = .returned (.agg #[.int .i64 W, .int .u64 (LO (GA)), .int .u64 (HI (GA))]) ∧ Below wx.heap.size wx w') := fun wx => by
    have h := do_low (k := 6) (op := 18) (m := 1) rfl (by decide) (Wd.mk' h1 h2 lNA) ⟨h1, h2, h1W, rfl, lo1, hi1⟩ wx
    rw [hNA, ← neg_n hn, ← hGA, ← hNA] at h
    exact h
  obtain ⟨X3, hX3⟩ : ∃ x, x = lowop 3 W n m := ⟨_, rfl⟩
  obtain ⟨X4, hX4⟩ : ∃ x, x = lowop 4 W n m := ⟨_, rfl⟩
  have HD3 : Hid (∀ wx, Calls Try.prog 34 #[.int .i64 15, .agg #[.int .i64 W, .int .u64 (LO (n)), .int .u64 (HI (n))], .agg #[.int .i64 W, .int .u64 (LO (m)), .int .u64 (HI (m))]] wx fun e w' => e = .returned (.agg #[.int .i64 W, .int .u64 (LO (X3)), .int .u64 (HI (X3))]) ∧ Below wx.heap.size wx w') := fun wx => by rw [hX3]; exact do_nand (Wd.mk' h1 h2 hn) (Wd.mk' h1 h2 hm) wx
  have HD4 : Hid (∀ wx, Calls Try.prog 34 #[.int .i64 16, .agg #[.int .i64 W, .int .u64 (LO (n)), .int .u64 (HI (n))], .agg #[.int .i64 W, .int .u64 (LO (m)), .int .u64 (HI (m))]] wx fun e w' => e = .returned (.agg #[.int .i64 W, .int .u64 (LO (X4)), .int .u64 (HI (X4))]) ∧ Below wx.heap.size wx w') := fun wx => by rw [hX4]; exact do_nor (Wd.mk' h1 h2 hn) (Wd.mk' h1 h2 hm) wx
  have q1 : eqB (lowop 6 W n m) (lowop 6 W m n) = true := eqB_yes (add_c W n m)
  have q2 : eqB (lowop 8 W n m) (lowop 8 W m n) = true := eqB_yes (mul_c W n m)
  have q3 : eqB (lowop 6 W (lowop 6 W n m) k) (lowop 6 W n (lowop 6 W m k)) = true := eqB_yes (add_a W n m k)
  have q4 : eqB (lowop 8 W (lowop 8 W n m) k) (lowop 8 W n (lowop 8 W m k)) = true := eqB_yes (mul_a W n m k)
  have q5 : eqB (lowop 8 W n (lowop 6 W m k)) (lowop 6 W (lowop 8 W n m) (lowop 8 W n k)) = true := eqB_yes (mul_d W n m k)
  have q6 : eqB (lowop 7 W n m) (lowop 6 W n GB) = true := eqB_yes (by rw [hGB]; exact sub_n W n m)
  have q7 : eqB GA GA = true := eqB_yes rfl
  have q8 : eqB X3 (lowop 1 W NA NB) = true := eqB_yes (by rw [hX3, hNA, hNB]; exact nand_n hn hm)
  have q9 : eqB X4 (lowop 0 W NA NB) = true := eqB_yes (by rw [hX4, hNA, hNB]; exact nor_n hn hm)
  have q10 : eqB (lowop 5 W n m) NX = true := eqB_yes (by rw [hNX]; exact xnor_n W n m)
  have q11 : eqB (lowop 2 W (lowop 2 W n m) m) n = true := eqB_yes (xor_b W n m)
  have q12 : eqB (lowop 6 W (lowop 0 W n m) (lowop 1 W n m)) (lowop 6 W n m) = true := eqB_yes (and_or_w W n m)
  have hqn := neq_w
  have hqe := eq_w
  clear hNA hNB hNX hGA hGB hX3 hX4
  have HKH : Hid _ := HK
  clear HK
  go_enter Try.func7, Try.ntmps7
  go_wp2_with fail
  refine (HKH.out _).mono ?_
  rintro e w1 ⟨rfl, hb1⟩
  have hb1' := below_step (w := w) (by go_grown) hb1
  have hs1 := hb1'.size
  go_wp2_with fail
  refine (HA.out _).mono ?_
  rintro e w2 ⟨rfl, hb2⟩
  have hb2' := below_step (w := w) (by go_grown) hb2
  have hs2 := hb2'.size
  go_wp2_with fail
  refine (HB.out _).mono ?_
  rintro e w3 ⟨rfl, hb3⟩
  have hb3' := below_step (w := w) (by go_grown) hb3
  have hs3 := hb3'.size
  go_wp2_with fail
  refine (HC.out _).mono ?_
  rintro e w4 ⟨rfl, hb4⟩
  have hb4' := below_step (w := w) (by go_grown) hb4
  have hs4 := hb4'.size
  go_upto_region 6 with fail
  go_cut [115] from 42 to 115 (fun v115 X => v115 = .bool false ∧ (X.cell? ⟨w4.heap.size, 0, none⟩ = some (.int .i64 W) ∧ X.cell? ⟨w4.heap.size, 1, none⟩ = some (.int .u64 (LO (n))) ∧ X.cell? ⟨w4.heap.size, 2, none⟩ = some (.int .u64 (HI (n))) ∧ X.cell? ⟨w4.heap.size + 1, 0, none⟩ = some (.int .i64 W) ∧ X.cell? ⟨w4.heap.size + 1, 1, none⟩ = some (.int .u64 (LO (m))) ∧ X.cell? ⟨w4.heap.size + 1, 2, none⟩ = some (.int .u64 (HI (m)))) ∧ (X.cell? ⟨w4.heap.size + 1 + 1 + 1, 0, none⟩ = some (.int .i64 W) ∧ X.cell? ⟨w4.heap.size + 1 + 1 + 1, 1, none⟩ = some (.int .u64 1) ∧ X.cell? ⟨w4.heap.size + 1 + 1 + 1, 2, none⟩ = some (.int .u64 0)) ∧ Below w.heap.size w X)
  case first =>
    go_wp2_with fail
    simp only [List.append]
    refine wp_named fun a0 ha0 => ?_
    have o15 := old_at ha0 (t := 15) rfl
    have o16 := old_at ha0 (t := 16) rfl
    have o17 := old_at ha0 (t := 17) rfl
    have o19 := old_at ha0 (t := 19) rfl
    have o20 := old_at ha0 (t := 20) rfl
    refine wp_region_lin (S := SS w _ [(w4.heap.size, [.int .i64 W, .int .u64 (LO (n)), .int .u64 (HI (n))]), (w4.heap.size + 1, [.int .i64 W, .int .u64 (LO (m)), .int .u64 (HI (m))]), (w4.heap.size + 1 + 1, [.int .i64 W, .int .u64 (LO (k)), .int .u64 (HI (k))]), (w4.heap.size + 1 + 1 + 1, [.int .i64 W, .int .u64 1, .int .u64 0])] []) [] (fun _ => 0) (by kernel_rfl) (by kernel_rfl) (by rw [← ha0]; kernel_rfl) (SS.start (by first | assumption | go_grown) ?_) ?_
    · intro p hp; simp only [List.mem_cons, List.not_mem_nil, or_false] at hp; rcases hp with rfl | rfl | rfl | rfl; all_goals exact ⟨At.three (by simp [go_sem]) (by simp [go_sem]) (by simp [go_sem]), by simp⟩
    apply LinAll.cons0
    · intro g L a x hLi haft hS hK; have t19 := (hK.old 19 (by kernel_rfl)).trans o19; (try dsimp only at t19); refine go_in (wanted_all rfl) ?_; intro K hk; clear haft hK hLi; go_simp; exact hS.go hk rfl
    apply LinAll.cons0
    · intro g L a x hLi haft hS hK; have t15 := (hK.old 15 (by kernel_rfl)).trans o15; (try dsimp only at t15); refine go_in (wanted_all rfl) ?_; intro K hk; obtain ⟨c0, c1, c2⟩ := (hS.own _ (.head _)).2.get3; clear haft hK hLi; go_simp; exact hS.go hk rfl
    apply LinAll.cons0
    · intro g L a x hLi haft hS hK; have t16 := (hK.old 16 (by kernel_rfl)).trans o16; (try dsimp only at t16); refine go_in (wanted_all rfl) ?_; intro K hk; obtain ⟨c0, c1, c2⟩ := (hS.own _ (.tail _ (.head _))).2.get3; clear haft hK hLi; go_simp; exact hS.go hk rfl
    apply LinAll.cons0
    · intro g L a x hLi haft hS hK; have t42 := hK.new 0 2 _ 42 _ rfl rfl rfl (by kernel_rfl) (waits haft 0 (by kernel_rfl)); have t43 := hK.new 1 1 _ 43 _ rfl rfl rfl (by kernel_rfl) (waits haft 1 (by kernel_rfl)); have t44 := hK.new 2 0 _ 44 _ rfl rfl rfl (by kernel_rfl) (waits haft 2 (by kernel_rfl)); (try dsimp only at t42 t43 t44); refine go_in (wanted_all rfl) ?_; intro K hk; clear haft hK hLi; go_simp; refine (do_low (k := 6) (op := 18) rfl (by decide) (Wd.mk' h1 h2 (by first | assumption | exact lowop_lt (by assumption) (by assumption))) (Wd.mk' h1 h2 (by first | assumption | exact lowop_lt (by assumption) (by assumption))) _).mono ?_; rintro e y ⟨rfl, hb⟩; exact hS.on hk hb rfl
    apply LinAll.cons0
    · intro g L a x hLi haft hS hK; have t19 := (hK.old 19 (by kernel_rfl)).trans o19; (try dsimp only at t19); refine go_in (wanted_all rfl) ?_; intro K hk; clear haft hK hLi; go_simp; exact hS.go hk rfl
    apply LinAll.cons0
    · intro g L a x hLi haft hS hK; have t16 := (hK.old 16 (by kernel_rfl)).trans o16; (try dsimp only at t16); refine go_in (wanted_all rfl) ?_; intro K hk; obtain ⟨c0, c1, c2⟩ := (hS.own _ (.tail _ (.head _))).2.get3; clear haft hK hLi; go_simp; exact hS.go hk rfl
    apply LinAll.cons0
    · intro g L a x hLi haft hS hK; have t15 := (hK.old 15 (by kernel_rfl)).trans o15; (try dsimp only at t15); refine go_in (wanted_all rfl) ?_; intro K hk; obtain ⟨c0, c1, c2⟩ := (hS.own _ (.head _)).2.get3; clear haft hK hLi; go_simp; exact hS.go hk rfl
    apply LinAll.cons0
    · intro g L a x hLi haft hS hK; have t46 := hK.new 4 2 _ 46 _ rfl rfl rfl (by kernel_rfl) (waits haft 4 (by kernel_rfl)); have t47 := hK.new 5 1 _ 47 _ rfl rfl rfl (by kernel_rfl) (waits haft 5 (by kernel_rfl)); have t48 := hK.new 6 0 _ 48 _ rfl rfl rfl (by kernel_rfl) (waits haft 6 (by kernel_rfl)); (try dsimp only at t46 t47 t48); refine go_in (wanted_all rfl) ?_; intro K hk; clear haft hK hLi; go_simp; refine (do_low (k := 6) (op := 18) rfl (by decide) (Wd.mk' h1 h2 (by first | assumption | exact lowop_lt (by assumption) (by assumption))) (Wd.mk' h1 h2 (by first | assumption | exact lowop_lt (by assumption) (by assumption))) _).mono ?_; rintro e y ⟨rfl, hb⟩; exact hS.on hk hb rfl
    apply LinAll.cons0
    · intro g L a x hLi haft hS hK; have t45 := hK.new 3 4 _ 45 _ rfl rfl rfl (by kernel_rfl) (waits haft 3 (by kernel_rfl)); have t49 := hK.new 7 0 _ 49 _ rfl rfl rfl (by kernel_rfl) (waits haft 7 (by kernel_rfl)); (try dsimp only at t45 t49); refine go_in (wanted_all rfl) ?_; intro K hk; clear haft hK hLi; go_simp; exact hS.go hk rfl
    apply LinAll.cons0
    · intro g L a x hLi haft hS hK; have t50 := hK.new 8 0 _ 50 _ rfl rfl rfl (by kernel_rfl) (waits haft 8 (by kernel_rfl)); (try dsimp only at t50); refine go_in (wanted_all rfl) ?_; intro K hk; clear haft hK hLi; go_simp; exact hS.go hk rfl
    apply LinAll.cons0
    · intro g L a x hLi haft hS hK; have t20 := (hK.old 20 (by kernel_rfl)).trans o20; have tg := hK.new 9 0 _ 51 _ rfl rfl rfl (by kernel_rfl) (waits haft 9 (by kernel_rfl)); (try dsimp only at t20); refine go_in (wanted_at rfl rfl rfl tg rfl) ?_; intro K hk; clear haft hK tg hLi; go_simp; exact hS.go hk rfl
    apply LinAll.cons0
    · intro g L a x hLi haft hS hK; have t15 := (hK.old 15 (by kernel_rfl)).trans o15; have tg := hK.new 9 1 _ 51 _ rfl rfl rfl (by kernel_rfl) (waits haft 9 (by kernel_rfl)); (try dsimp only at t15); refine go_in (wanted_at rfl rfl rfl tg rfl) ?_; intro K hk; obtain ⟨c0, c1, c2⟩ := (hS.own _ (.head _)).2.get3; clear haft hK tg hLi; go_simp; exact hS.go hk rfl
    apply LinAll.cons0
    · intro g L a x hLi haft hS hK; have t16 := (hK.old 16 (by kernel_rfl)).trans o16; have tg := hK.new 9 2 _ 51 _ rfl rfl rfl (by kernel_rfl) (waits haft 9 (by kernel_rfl)); (try dsimp only at t16); refine go_in (wanted_at rfl rfl rfl tg rfl) ?_; intro K hk; obtain ⟨c0, c1, c2⟩ := (hS.own _ (.tail _ (.head _))).2.get3; clear haft hK tg hLi; go_simp; exact hS.go hk rfl
    apply LinAll.cons0
    · intro g L a x hLi haft hS hK; have t52 := hK.new 10 2 _ 52 _ rfl rfl rfl (by kernel_rfl) (waits haft 10 (by kernel_rfl)); have t53 := hK.new 11 1 _ 53 _ rfl rfl rfl (by kernel_rfl) (waits haft 11 (by kernel_rfl)); have t54 := hK.new 12 0 _ 54 _ rfl rfl rfl (by kernel_rfl) (waits haft 12 (by kernel_rfl)); have tg := hK.new 9 3 _ 51 _ rfl rfl rfl (by kernel_rfl) (waits haft 9 (by kernel_rfl)); (try dsimp only at t52 t53 t54); refine go_in (wanted_at rfl rfl rfl tg rfl) ?_; intro K hk; clear haft hK tg hLi; go_simp; refine (do_low (k := 8) (op := 20) rfl (by decide) (Wd.mk' h1 h2 (by first | assumption | exact lowop_lt (by assumption) (by assumption))) (Wd.mk' h1 h2 (by first | assumption | exact lowop_lt (by assumption) (by assumption))) _).mono ?_; rintro e y ⟨rfl, hb⟩; exact hS.on hk hb rfl
    apply LinAll.cons0
    · intro g L a x hLi haft hS hK; have t20 := (hK.old 20 (by kernel_rfl)).trans o20; have tg := hK.new 9 4 _ 51 _ rfl rfl rfl (by kernel_rfl) (waits haft 9 (by kernel_rfl)); (try dsimp only at t20); refine go_in (wanted_at rfl rfl rfl tg rfl) ?_; intro K hk; clear haft hK tg hLi; go_simp; exact hS.go hk rfl
    apply LinAll.cons0
    · intro g L a x hLi haft hS hK; have t16 := (hK.old 16 (by kernel_rfl)).trans o16; have tg := hK.new 9 5 _ 51 _ rfl rfl rfl (by kernel_rfl) (waits haft 9 (by kernel_rfl)); (try dsimp only at t16); refine go_in (wanted_at rfl rfl rfl tg rfl) ?_; intro K hk; obtain ⟨c0, c1, c2⟩ := (hS.own _ (.tail _ (.head _))).2.get3; clear haft hK tg hLi; go_simp; exact hS.go hk rfl
    apply LinAll.cons0
    · intro g L a x hLi haft hS hK; have t15 := (hK.old 15 (by kernel_rfl)).trans o15; have tg := hK.new 9 6 _ 51 _ rfl rfl rfl (by kernel_rfl) (waits haft 9 (by kernel_rfl)); (try dsimp only at t15); refine go_in (wanted_at rfl rfl rfl tg rfl) ?_; intro K hk; obtain ⟨c0, c1, c2⟩ := (hS.own _ (.head _)).2.get3; clear haft hK tg hLi; go_simp; exact hS.go hk rfl
    apply LinAll.cons0
    · intro g L a x hLi haft hS hK; have t56 := hK.new 14 2 _ 56 _ rfl rfl rfl (by kernel_rfl) (waits haft 14 (by kernel_rfl)); have t57 := hK.new 15 1 _ 57 _ rfl rfl rfl (by kernel_rfl) (waits haft 15 (by kernel_rfl)); have t58 := hK.new 16 0 _ 58 _ rfl rfl rfl (by kernel_rfl) (waits haft 16 (by kernel_rfl)); have tg := hK.new 9 7 _ 51 _ rfl rfl rfl (by kernel_rfl) (waits haft 9 (by kernel_rfl)); (try dsimp only at t56 t57 t58); refine go_in (wanted_at rfl rfl rfl tg rfl) ?_; intro K hk; clear haft hK tg hLi; go_simp; refine (do_low (k := 8) (op := 20) rfl (by decide) (Wd.mk' h1 h2 (by first | assumption | exact lowop_lt (by assumption) (by assumption))) (Wd.mk' h1 h2 (by first | assumption | exact lowop_lt (by assumption) (by assumption))) _).mono ?_; rintro e y ⟨rfl, hb⟩; exact hS.on hk hb rfl
    apply LinAll.cons0
    · intro g L a x hLi haft hS hK; have t55 := hK.new 13 4 _ 55 _ rfl rfl rfl (by kernel_rfl) (waits haft 13 (by kernel_rfl)); have t59 := hK.new 17 0 _ 59 _ rfl rfl rfl (by kernel_rfl) (waits haft 17 (by kernel_rfl)); have tg := hK.new 9 8 _ 51 _ rfl rfl rfl (by kernel_rfl) (waits haft 9 (by kernel_rfl)); (try dsimp only at t55 t59); refine go_in (wanted_at rfl rfl rfl tg rfl) ?_; intro K hk; clear haft hK tg hLi; go_simp; exact hS.go hk rfl
    apply LinAll.cons0
    · intro g L a x hLi haft hS hK; have t51 := hK.new 9 9 _ 51 _ rfl rfl rfl (by kernel_rfl) (waits haft 9 (by kernel_rfl)); have t60 := hK.new 18 0 _ 60 _ rfl rfl rfl (by kernel_rfl) (waits haft 18 (by kernel_rfl)); (try dsimp only at t51 t60); refine go_in (wanted_all rfl) ?_; intro K hk; clear haft hK hLi; go_simp; exact hS.go hk rfl
    apply LinAll.cons0
    · intro g L a x hLi haft hS hK; have t61 := hK.new 19 0 _ 61 _ rfl rfl rfl (by kernel_rfl) (waits haft 19 (by kernel_rfl)); (try dsimp only at t61); refine go_in (wanted_all rfl) ?_; intro K hk; clear haft hK hLi; go_simp; exact hS.go hk rfl
    apply LinAll.cons0
    · intro g L a x hLi haft hS hK; have t19 := (hK.old 19 (by kernel_rfl)).trans o19; have tg := hK.new 20 0 _ 62 _ rfl rfl rfl (by kernel_rfl) (waits haft 20 (by kernel_rfl)); (try dsimp only at t19); refine go_in (wanted_at rfl rfl rfl tg rfl) ?_; intro K hk; clear haft hK tg hLi; go_simp; exact hS.go hk rfl
    apply LinAll.cons0
    · intro g L a x hLi haft hS hK; have t19 := (hK.old 19 (by kernel_rfl)).trans o19; have tg := hK.new 20 1 _ 62 _ rfl rfl rfl (by kernel_rfl) (waits haft 20 (by kernel_rfl)); (try dsimp only at t19); refine go_in (wanted_at rfl rfl rfl tg rfl) ?_; intro K hk; clear haft hK tg hLi; go_simp; exact hS.go hk rfl
    apply LinAll.cons0
    · intro g L a x hLi haft hS hK; have t15 := (hK.old 15 (by kernel_rfl)).trans o15; have tg := hK.new 20 2 _ 62 _ rfl rfl rfl (by kernel_rfl) (waits haft 20 (by kernel_rfl)); (try dsimp only at t15); refine go_in (wanted_at rfl rfl rfl tg rfl) ?_; intro K hk; obtain ⟨c0, c1, c2⟩ := (hS.own _ (.head _)).2.get3; clear haft hK tg hLi; go_simp; exact hS.go hk rfl
    apply LinAll.cons0
    · intro g L a x hLi haft hS hK; have t16 := (hK.old 16 (by kernel_rfl)).trans o16; have tg := hK.new 20 3 _ 62 _ rfl rfl rfl (by kernel_rfl) (waits haft 20 (by kernel_rfl)); (try dsimp only at t16); refine go_in (wanted_at rfl rfl rfl tg rfl) ?_; intro K hk; obtain ⟨c0, c1, c2⟩ := (hS.own _ (.tail _ (.head _))).2.get3; clear haft hK tg hLi; go_simp; exact hS.go hk rfl
    apply LinAll.cons0
    · intro g L a x hLi haft hS hK; have t64 := hK.new 22 2 _ 64 _ rfl rfl rfl (by kernel_rfl) (waits haft 22 (by kernel_rfl)); have t65 := hK.new 23 1 _ 65 _ rfl rfl rfl (by kernel_rfl) (waits haft 23 (by kernel_rfl)); have t66 := hK.new 24 0 _ 66 _ rfl rfl rfl (by kernel_rfl) (waits haft 24 (by kernel_rfl)); have tg := hK.new 20 4 _ 62 _ rfl rfl rfl (by kernel_rfl) (waits haft 20 (by kernel_rfl)); (try dsimp only at t64 t65 t66); refine go_in (wanted_at rfl rfl rfl tg rfl) ?_; intro K hk; clear haft hK tg hLi; go_simp; refine (do_low (k := 6) (op := 18) rfl (by decide) (Wd.mk' h1 h2 (by first | assumption | exact lowop_lt (by assumption) (by assumption))) (Wd.mk' h1 h2 (by first | assumption | exact lowop_lt (by assumption) (by assumption))) _).mono ?_; rintro e y ⟨rfl, hb⟩; exact hS.on hk hb rfl
    apply LinAll.cons0
    · intro g L a x hLi haft hS hK; have t17 := (hK.old 17 (by kernel_rfl)).trans o17; have tg := hK.new 20 5 _ 62 _ rfl rfl rfl (by kernel_rfl) (waits haft 20 (by kernel_rfl)); (try dsimp only at t17); refine go_in (wanted_at rfl rfl rfl tg rfl) ?_; intro K hk; obtain ⟨c0, c1, c2⟩ := (hS.own _ (.tail _ (.tail _ (.head _)))).2.get3; clear haft hK tg hLi; go_simp; exact hS.go hk rfl
    apply LinAll.cons0
    · intro g L a x hLi haft hS hK; have t63 := hK.new 21 5 _ 63 _ rfl rfl rfl (by kernel_rfl) (waits haft 21 (by kernel_rfl)); have t67 := hK.new 25 1 _ 67 _ rfl rfl rfl (by kernel_rfl) (waits haft 25 (by kernel_rfl)); have t68 := hK.new 26 0 _ 68 _ rfl rfl rfl (by kernel_rfl) (waits haft 26 (by kernel_rfl)); have tg := hK.new 20 6 _ 62 _ rfl rfl rfl (by kernel_rfl) (waits haft 20 (by kernel_rfl)); (try dsimp only at t63 t67 t68); refine go_in (wanted_at rfl rfl rfl tg rfl) ?_; intro K hk; clear haft hK tg hLi; go_simp; refine (do_low (k := 6) (op := 18) rfl (by decide) (Wd.mk' h1 h2 (by first | assumption | exact lowop_lt (by assumption) (by assumption))) (Wd.mk' h1 h2 (by first | assumption | exact lowop_lt (by assumption) (by assumption))) _).mono ?_; rintro e y ⟨rfl, hb⟩; exact hS.on hk hb rfl
    apply LinAll.cons0
    · intro g L a x hLi haft hS hK; have t19 := (hK.old 19 (by kernel_rfl)).trans o19; have tg := hK.new 20 7 _ 62 _ rfl rfl rfl (by kernel_rfl) (waits haft 20 (by kernel_rfl)); (try dsimp only at t19); refine go_in (wanted_at rfl rfl rfl tg rfl) ?_; intro K hk; clear haft hK tg hLi; go_simp; exact hS.go hk rfl
    apply LinAll.cons0
    · intro g L a x hLi haft hS hK; have t15 := (hK.old 15 (by kernel_rfl)).trans o15; have tg := hK.new 20 8 _ 62 _ rfl rfl rfl (by kernel_rfl) (waits haft 20 (by kernel_rfl)); (try dsimp only at t15); refine go_in (wanted_at rfl rfl rfl tg rfl) ?_; intro K hk; obtain ⟨c0, c1, c2⟩ := (hS.own _ (.head _)).2.get3; clear haft hK tg hLi; go_simp; exact hS.go hk rfl
    apply LinAll.cons0
    · intro g L a x hLi haft hS hK; have t19 := (hK.old 19 (by kernel_rfl)).trans o19; have tg := hK.new 20 9 _ 62 _ rfl rfl rfl (by kernel_rfl) (waits haft 20 (by kernel_rfl)); (try dsimp only at t19); refine go_in (wanted_at rfl rfl rfl tg rfl) ?_; intro K hk; clear haft hK tg hLi; go_simp; exact hS.go hk rfl
    apply LinAll.cons0
    · intro g L a x hLi haft hS hK; have t16 := (hK.old 16 (by kernel_rfl)).trans o16; have tg := hK.new 20 10 _ 62 _ rfl rfl rfl (by kernel_rfl) (waits haft 20 (by kernel_rfl)); (try dsimp only at t16); refine go_in (wanted_at rfl rfl rfl tg rfl) ?_; intro K hk; obtain ⟨c0, c1, c2⟩ := (hS.own _ (.tail _ (.head _))).2.get3; clear haft hK tg hLi; go_simp; exact hS.go hk rfl
    apply LinAll.cons0
    · intro g L a x hLi haft hS hK; have t17 := (hK.old 17 (by kernel_rfl)).trans o17; have tg := hK.new 20 11 _ 62 _ rfl rfl rfl (by kernel_rfl) (waits haft 20 (by kernel_rfl)); (try dsimp only at t17); refine go_in (wanted_at rfl rfl rfl tg rfl) ?_; intro K hk; obtain ⟨c0, c1, c2⟩ := (hS.own _ (.tail _ (.tail _ (.head _)))).2.get3; clear haft hK tg hLi; go_simp; exact hS.go hk rfl
    apply LinAll.cons0
    · intro g L a x hLi haft hS hK; have t72 := hK.new 30 2 _ 72 _ rfl rfl rfl (by kernel_rfl) (waits haft 30 (by kernel_rfl)); have t73 := hK.new 31 1 _ 73 _ rfl rfl rfl (by kernel_rfl) (waits haft 31 (by kernel_rfl)); have t74 := hK.new 32 0 _ 74 _ rfl rfl rfl (by kernel_rfl) (waits haft 32 (by kernel_rfl)); have tg := hK.new 20 12 _ 62 _ rfl rfl rfl (by kernel_rfl) (waits haft 20 (by kernel_rfl)); (try dsimp only at t72 t73 t74); refine go_in (wanted_at rfl rfl rfl tg rfl) ?_; intro K hk; clear haft hK tg hLi; go_simp; refine (do_low (k := 6) (op := 18) rfl (by decide) (Wd.mk' h1 h2 (by first | assumption | exact lowop_lt (by assumption) (by assumption))) (Wd.mk' h1 h2 (by first | assumption | exact lowop_lt (by assumption) (by assumption))) _).mono ?_; rintro e y ⟨rfl, hb⟩; exact hS.on hk hb rfl
    apply LinAll.cons0
    · intro g L a x hLi haft hS hK; have t70 := hK.new 28 5 _ 70 _ rfl rfl rfl (by kernel_rfl) (waits haft 28 (by kernel_rfl)); have t71 := hK.new 29 4 _ 71 _ rfl rfl rfl (by kernel_rfl) (waits haft 29 (by kernel_rfl)); have t75 := hK.new 33 0 _ 75 _ rfl rfl rfl (by kernel_rfl) (waits haft 33 (by kernel_rfl)); have tg := hK.new 20 13 _ 62 _ rfl rfl rfl (by kernel_rfl) (waits haft 20 (by kernel_rfl)); (try dsimp only at t70 t71 t75); refine go_in (wanted_at rfl rfl rfl tg rfl) ?_; intro K hk; clear haft hK tg hLi; go_simp; refine (do_low (k := 6) (op := 18) rfl (by decide) (Wd.mk' h1 h2 (by first | assumption | exact lowop_lt (by assumption) (by assumption))) (Wd.mk' h1 h2 (by first | assumption | exact lowop_lt (by assumption) (by assumption))) _).mono ?_; rintro e y ⟨rfl, hb⟩; exact hS.on hk hb rfl
    apply LinAll.cons0
    · intro g L a x hLi haft hS hK; have t69 := hK.new 27 7 _ 69 _ rfl rfl rfl (by kernel_rfl) (waits haft 27 (by kernel_rfl)); have t76 := hK.new 34 0 _ 76 _ rfl rfl rfl (by kernel_rfl) (waits haft 34 (by kernel_rfl)); have tg := hK.new 20 14 _ 62 _ rfl rfl rfl (by kernel_rfl) (waits haft 20 (by kernel_rfl)); (try dsimp only at t69 t76); refine go_in (wanted_at rfl rfl rfl tg rfl) ?_; intro K hk; clear haft hK tg hLi; go_simp; exact hS.go hk rfl
    apply LinAll.cons0
    · intro g L a x hLi haft hS hK; have t62 := hK.new 20 15 _ 62 _ rfl rfl rfl (by kernel_rfl) (waits haft 20 (by kernel_rfl)); have t77 := hK.new 35 0 _ 77 _ rfl rfl rfl (by kernel_rfl) (waits haft 35 (by kernel_rfl)); (try dsimp only at t62 t77); refine go_in (wanted_all rfl) ?_; intro K hk; clear haft hK hLi; go_simp; exact hS.go hk rfl
    apply LinAll.cons0
    · intro g L a x hLi haft hS hK; have t78 := hK.new 36 0 _ 78 _ rfl rfl rfl (by kernel_rfl) (waits haft 36 (by kernel_rfl)); (try dsimp only at t78); refine go_in (wanted_all rfl) ?_; intro K hk; clear haft hK hLi; go_simp; exact hS.go hk rfl
    apply LinAll.cons0
    · intro g L a x hLi haft hS hK; have t20 := (hK.old 20 (by kernel_rfl)).trans o20; have tg := hK.new 37 0 _ 79 _ rfl rfl rfl (by kernel_rfl) (waits haft 37 (by kernel_rfl)); (try dsimp only at t20); refine go_in (wanted_at rfl rfl rfl tg rfl) ?_; intro K hk; clear haft hK tg hLi; go_simp; exact hS.go hk rfl
    apply LinAll.cons0
    · intro g L a x hLi haft hS hK; have t20 := (hK.old 20 (by kernel_rfl)).trans o20; have tg := hK.new 37 1 _ 79 _ rfl rfl rfl (by kernel_rfl) (waits haft 37 (by kernel_rfl)); (try dsimp only at t20); refine go_in (wanted_at rfl rfl rfl tg rfl) ?_; intro K hk; clear haft hK tg hLi; go_simp; exact hS.go hk rfl
    apply LinAll.cons0
    · intro g L a x hLi haft hS hK; have t15 := (hK.old 15 (by kernel_rfl)).trans o15; have tg := hK.new 37 2 _ 79 _ rfl rfl rfl (by kernel_rfl) (waits haft 37 (by kernel_rfl)); (try dsimp only at t15); refine go_in (wanted_at rfl rfl rfl tg rfl) ?_; intro K hk; obtain ⟨c0, c1, c2⟩ := (hS.own _ (.head _)).2.get3; clear haft hK tg hLi; go_simp; exact hS.go hk rfl
    apply LinAll.cons0
    · intro g L a x hLi haft hS hK; have t16 := (hK.old 16 (by kernel_rfl)).trans o16; have tg := hK.new 37 3 _ 79 _ rfl rfl rfl (by kernel_rfl) (waits haft 37 (by kernel_rfl)); (try dsimp only at t16); refine go_in (wanted_at rfl rfl rfl tg rfl) ?_; intro K hk; obtain ⟨c0, c1, c2⟩ := (hS.own _ (.tail _ (.head _))).2.get3; clear haft hK tg hLi; go_simp; exact hS.go hk rfl
    apply LinAll.cons0
    · intro g L a x hLi haft hS hK; have t81 := hK.new 39 2 _ 81 _ rfl rfl rfl (by kernel_rfl) (waits haft 39 (by kernel_rfl)); have t82 := hK.new 40 1 _ 82 _ rfl rfl rfl (by kernel_rfl) (waits haft 40 (by kernel_rfl)); have t83 := hK.new 41 0 _ 83 _ rfl rfl rfl (by kernel_rfl) (waits haft 41 (by kernel_rfl)); have tg := hK.new 37 4 _ 79 _ rfl rfl rfl (by kernel_rfl) (waits haft 37 (by kernel_rfl)); (try dsimp only at t81 t82 t83); refine go_in (wanted_at rfl rfl rfl tg rfl) ?_; intro K hk; clear haft hK tg hLi; go_simp; refine (do_low (k := 8) (op := 20) rfl (by decide) (Wd.mk' h1 h2 (by first | assumption | exact lowop_lt (by assumption) (by assumption))) (Wd.mk' h1 h2 (by first | assumption | exact lowop_lt (by assumption) (by assumption))) _).mono ?_; rintro e y ⟨rfl, hb⟩; exact hS.on hk hb rfl
    apply LinAll.cons0
    · intro g L a x hLi haft hS hK; have t17 := (hK.old 17 (by kernel_rfl)).trans o17; have tg := hK.new 37 5 _ 79 _ rfl rfl rfl (by kernel_rfl) (waits haft 37 (by kernel_rfl)); (try dsimp only at t17); refine go_in (wanted_at rfl rfl rfl tg rfl) ?_; intro K hk; obtain ⟨c0, c1, c2⟩ := (hS.own _ (.tail _ (.tail _ (.head _)))).2.get3; clear haft hK tg hLi; go_simp; exact hS.go hk rfl
    apply LinAll.cons0
    · intro g L a x hLi haft hS hK; have t80 := hK.new 38 5 _ 80 _ rfl rfl rfl (by kernel_rfl) (waits haft 38 (by kernel_rfl)); have t84 := hK.new 42 1 _ 84 _ rfl rfl rfl (by kernel_rfl) (waits haft 42 (by kernel_rfl)); have t85 := hK.new 43 0 _ 85 _ rfl rfl rfl (by kernel_rfl) (waits haft 43 (by kernel_rfl)); have tg := hK.new 37 6 _ 79 _ rfl rfl rfl (by kernel_rfl) (waits haft 37 (by kernel_rfl)); (try dsimp only at t80 t84 t85); refine go_in (wanted_at rfl rfl rfl tg rfl) ?_; intro K hk; clear haft hK tg hLi; go_simp; refine (do_low (k := 8) (op := 20) rfl (by decide) (Wd.mk' h1 h2 (by first | assumption | exact lowop_lt (by assumption) (by assumption))) (Wd.mk' h1 h2 (by first | assumption | exact lowop_lt (by assumption) (by assumption))) _).mono ?_; rintro e y ⟨rfl, hb⟩; exact hS.on hk hb rfl
    apply LinAll.cons0
    · intro g L a x hLi haft hS hK; have t20 := (hK.old 20 (by kernel_rfl)).trans o20; have tg := hK.new 37 7 _ 79 _ rfl rfl rfl (by kernel_rfl) (waits haft 37 (by kernel_rfl)); (try dsimp only at t20); refine go_in (wanted_at rfl rfl rfl tg rfl) ?_; intro K hk; clear haft hK tg hLi; go_simp; exact hS.go hk rfl
    apply LinAll.cons0
    · intro g L a x hLi haft hS hK; have t15 := (hK.old 15 (by kernel_rfl)).trans o15; have tg := hK.new 37 8 _ 79 _ rfl rfl rfl (by kernel_rfl) (waits haft 37 (by kernel_rfl)); (try dsimp only at t15); refine go_in (wanted_at rfl rfl rfl tg rfl) ?_; intro K hk; obtain ⟨c0, c1, c2⟩ := (hS.own _ (.head _)).2.get3; clear haft hK tg hLi; go_simp; exact hS.go hk rfl
    apply LinAll.cons0
    · intro g L a x hLi haft hS hK; have t20 := (hK.old 20 (by kernel_rfl)).trans o20; have tg := hK.new 37 9 _ 79 _ rfl rfl rfl (by kernel_rfl) (waits haft 37 (by kernel_rfl)); (try dsimp only at t20); refine go_in (wanted_at rfl rfl rfl tg rfl) ?_; intro K hk; clear haft hK tg hLi; go_simp; exact hS.go hk rfl
    apply LinAll.cons0
    · intro g L a x hLi haft hS hK; have t16 := (hK.old 16 (by kernel_rfl)).trans o16; have tg := hK.new 37 10 _ 79 _ rfl rfl rfl (by kernel_rfl) (waits haft 37 (by kernel_rfl)); (try dsimp only at t16); refine go_in (wanted_at rfl rfl rfl tg rfl) ?_; intro K hk; obtain ⟨c0, c1, c2⟩ := (hS.own _ (.tail _ (.head _))).2.get3; clear haft hK tg hLi; go_simp; exact hS.go hk rfl
    apply LinAll.cons0
    · intro g L a x hLi haft hS hK; have t17 := (hK.old 17 (by kernel_rfl)).trans o17; have tg := hK.new 37 11 _ 79 _ rfl rfl rfl (by kernel_rfl) (waits haft 37 (by kernel_rfl)); (try dsimp only at t17); refine go_in (wanted_at rfl rfl rfl tg rfl) ?_; intro K hk; obtain ⟨c0, c1, c2⟩ := (hS.own _ (.tail _ (.tail _ (.head _)))).2.get3; clear haft hK tg hLi; go_simp; exact hS.go hk rfl
    apply LinAll.cons0
    · intro g L a x hLi haft hS hK; have t89 := hK.new 47 2 _ 89 _ rfl rfl rfl (by kernel_rfl) (waits haft 47 (by kernel_rfl)); have t90 := hK.new 48 1 _ 90 _ rfl rfl rfl (by kernel_rfl) (waits haft 48 (by kernel_rfl)); have t91 := hK.new 49 0 _ 91 _ rfl rfl rfl (by kernel_rfl) (waits haft 49 (by kernel_rfl)); have tg := hK.new 37 12 _ 79 _ rfl rfl rfl (by kernel_rfl) (waits haft 37 (by kernel_rfl)); (try dsimp only at t89 t90 t91); refine go_in (wanted_at rfl rfl rfl tg rfl) ?_; intro K hk; clear haft hK tg hLi; go_simp; refine (do_low (k := 8) (op := 20) rfl (by decide) (Wd.mk' h1 h2 (by first | assumption | exact lowop_lt (by assumption) (by assumption))) (Wd.mk' h1 h2 (by first | assumption | exact lowop_lt (by assumption) (by assumption))) _).mono ?_; rintro e y ⟨rfl, hb⟩; exact hS.on hk hb rfl
    apply LinAll.cons0
    · intro g L a x hLi haft hS hK; have t87 := hK.new 45 5 _ 87 _ rfl rfl rfl (by kernel_rfl) (waits haft 45 (by kernel_rfl)); have t88 := hK.new 46 4 _ 88 _ rfl rfl rfl (by kernel_rfl) (waits haft 46 (by kernel_rfl)); have t92 := hK.new 50 0 _ 92 _ rfl rfl rfl (by kernel_rfl) (waits haft 50 (by kernel_rfl)); have tg := hK.new 37 13 _ 79 _ rfl rfl rfl (by kernel_rfl) (waits haft 37 (by kernel_rfl)); (try dsimp only at t87 t88 t92); refine go_in (wanted_at rfl rfl rfl tg rfl) ?_; intro K hk; clear haft hK tg hLi; go_simp; refine (do_low (k := 8) (op := 20) rfl (by decide) (Wd.mk' h1 h2 (by first | assumption | exact lowop_lt (by assumption) (by assumption))) (Wd.mk' h1 h2 (by first | assumption | exact lowop_lt (by assumption) (by assumption))) _).mono ?_; rintro e y ⟨rfl, hb⟩; exact hS.on hk hb rfl
    apply LinAll.cons0
    · intro g L a x hLi haft hS hK; have t86 := hK.new 44 7 _ 86 _ rfl rfl rfl (by kernel_rfl) (waits haft 44 (by kernel_rfl)); have t93 := hK.new 51 0 _ 93 _ rfl rfl rfl (by kernel_rfl) (waits haft 51 (by kernel_rfl)); have tg := hK.new 37 14 _ 79 _ rfl rfl rfl (by kernel_rfl) (waits haft 37 (by kernel_rfl)); (try dsimp only at t86 t93); refine go_in (wanted_at rfl rfl rfl tg rfl) ?_; intro K hk; clear haft hK tg hLi; go_simp; exact hS.go hk rfl
    apply LinAll.cons0
    · intro g L a x hLi haft hS hK; have t79 := hK.new 37 15 _ 79 _ rfl rfl rfl (by kernel_rfl) (waits haft 37 (by kernel_rfl)); have t94 := hK.new 52 0 _ 94 _ rfl rfl rfl (by kernel_rfl) (waits haft 52 (by kernel_rfl)); (try dsimp only at t79 t94); refine go_in (wanted_all rfl) ?_; intro K hk; clear haft hK hLi; go_simp; exact hS.go hk rfl
    apply LinAll.cons0
    · intro g L a x hLi haft hS hK; have t95 := hK.new 53 0 _ 95 _ rfl rfl rfl (by kernel_rfl) (waits haft 53 (by kernel_rfl)); (try dsimp only at t95); refine go_in (wanted_all rfl) ?_; intro K hk; clear haft hK hLi; go_simp; exact hS.go hk rfl
    apply LinAll.cons0
    · intro g L a x hLi haft hS hK; have t20 := (hK.old 20 (by kernel_rfl)).trans o20; have tg := hK.new 54 0 _ 96 _ rfl rfl rfl (by kernel_rfl) (waits haft 54 (by kernel_rfl)); (try dsimp only at t20); refine go_in (wanted_at rfl rfl rfl tg rfl) ?_; intro K hk; clear haft hK tg hLi; go_simp; exact hS.go hk rfl
    apply LinAll.cons0
    · intro g L a x hLi haft hS hK; have t15 := (hK.old 15 (by kernel_rfl)).trans o15; have tg := hK.new 54 1 _ 96 _ rfl rfl rfl (by kernel_rfl) (waits haft 54 (by kernel_rfl)); (try dsimp only at t15); refine go_in (wanted_at rfl rfl rfl tg rfl) ?_; intro K hk; obtain ⟨c0, c1, c2⟩ := (hS.own _ (.head _)).2.get3; clear haft hK tg hLi; go_simp; exact hS.go hk rfl
    apply LinAll.cons0
    · intro g L a x hLi haft hS hK; have t19 := (hK.old 19 (by kernel_rfl)).trans o19; have tg := hK.new 54 2 _ 96 _ rfl rfl rfl (by kernel_rfl) (waits haft 54 (by kernel_rfl)); (try dsimp only at t19); refine go_in (wanted_at rfl rfl rfl tg rfl) ?_; intro K hk; clear haft hK tg hLi; go_simp; exact hS.go hk rfl
    apply LinAll.cons0
    · intro g L a x hLi haft hS hK; have t16 := (hK.old 16 (by kernel_rfl)).trans o16; have tg := hK.new 54 3 _ 96 _ rfl rfl rfl (by kernel_rfl) (waits haft 54 (by kernel_rfl)); (try dsimp only at t16); refine go_in (wanted_at rfl rfl rfl tg rfl) ?_; intro K hk; obtain ⟨c0, c1, c2⟩ := (hS.own _ (.tail _ (.head _))).2.get3; clear haft hK tg hLi; go_simp; exact hS.go hk rfl
    apply LinAll.cons0
    · intro g L a x hLi haft hS hK; have t17 := (hK.old 17 (by kernel_rfl)).trans o17; have tg := hK.new 54 4 _ 96 _ rfl rfl rfl (by kernel_rfl) (waits haft 54 (by kernel_rfl)); (try dsimp only at t17); refine go_in (wanted_at rfl rfl rfl tg rfl) ?_; intro K hk; obtain ⟨c0, c1, c2⟩ := (hS.own _ (.tail _ (.tail _ (.head _)))).2.get3; clear haft hK tg hLi; go_simp; exact hS.go hk rfl
    apply LinAll.cons0
    · intro g L a x hLi haft hS hK; have t99 := hK.new 57 2 _ 99 _ rfl rfl rfl (by kernel_rfl) (waits haft 57 (by kernel_rfl)); have t100 := hK.new 58 1 _ 100 _ rfl rfl rfl (by kernel_rfl) (waits haft 58 (by kernel_rfl)); have t101 := hK.new 59 0 _ 101 _ rfl rfl rfl (by kernel_rfl) (waits haft 59 (by kernel_rfl)); have tg := hK.new 54 5 _ 96 _ rfl rfl rfl (by kernel_rfl) (waits haft 54 (by kernel_rfl)); (try dsimp only at t99 t100 t101); refine go_in (wanted_at rfl rfl rfl tg rfl) ?_; intro K hk; clear haft hK tg hLi; go_simp; refine (do_low (k := 6) (op := 18) rfl (by decide) (Wd.mk' h1 h2 (by first | assumption | exact lowop_lt (by assumption) (by assumption))) (Wd.mk' h1 h2 (by first | assumption | exact lowop_lt (by assumption) (by assumption))) _).mono ?_; rintro e y ⟨rfl, hb⟩; exact hS.on hk hb rfl
    apply LinAll.cons0
    · intro g L a x hLi haft hS hK; have t97 := hK.new 55 5 _ 97 _ rfl rfl rfl (by kernel_rfl) (waits haft 55 (by kernel_rfl)); have t98 := hK.new 56 4 _ 98 _ rfl rfl rfl (by kernel_rfl) (waits haft 56 (by kernel_rfl)); have t102 := hK.new 60 0 _ 102 _ rfl rfl rfl (by kernel_rfl) (waits haft 60 (by kernel_rfl)); have tg := hK.new 54 6 _ 96 _ rfl rfl rfl (by kernel_rfl) (waits haft 54 (by kernel_rfl)); (try dsimp only at t97 t98 t102); refine go_in (wanted_at rfl rfl rfl tg rfl) ?_; intro K hk; clear haft hK tg hLi; go_simp; refine (do_low (k := 8) (op := 20) rfl (by decide) (Wd.mk' h1 h2 (by first | assumption | exact lowop_lt (by assumption) (by assumption))) (Wd.mk' h1 h2 (by first | assumption | exact lowop_lt (by assumption) (by assumption))) _).mono ?_; rintro e y ⟨rfl, hb⟩; exact hS.on hk hb rfl
    apply LinAll.cons0
    · intro g L a x hLi haft hS hK; have t19 := (hK.old 19 (by kernel_rfl)).trans o19; have tg := hK.new 54 7 _ 96 _ rfl rfl rfl (by kernel_rfl) (waits haft 54 (by kernel_rfl)); (try dsimp only at t19); refine go_in (wanted_at rfl rfl rfl tg rfl) ?_; intro K hk; clear haft hK tg hLi; go_simp; exact hS.go hk rfl
    apply LinAll.cons0
    · intro g L a x hLi haft hS hK; have t20 := (hK.old 20 (by kernel_rfl)).trans o20; have tg := hK.new 54 8 _ 96 _ rfl rfl rfl (by kernel_rfl) (waits haft 54 (by kernel_rfl)); (try dsimp only at t20); refine go_in (wanted_at rfl rfl rfl tg rfl) ?_; intro K hk; clear haft hK tg hLi; go_simp; exact hS.go hk rfl
    apply LinAll.cons0
    · intro g L a x hLi haft hS hK; have t15 := (hK.old 15 (by kernel_rfl)).trans o15; have tg := hK.new 54 9 _ 96 _ rfl rfl rfl (by kernel_rfl) (waits haft 54 (by kernel_rfl)); (try dsimp only at t15); refine go_in (wanted_at rfl rfl rfl tg rfl) ?_; intro K hk; obtain ⟨c0, c1, c2⟩ := (hS.own _ (.head _)).2.get3; clear haft hK tg hLi; go_simp; exact hS.go hk rfl
    apply LinAll.cons0
    · intro g L a x hLi haft hS hK; have t16 := (hK.old 16 (by kernel_rfl)).trans o16; have tg := hK.new 54 10 _ 96 _ rfl rfl rfl (by kernel_rfl) (waits haft 54 (by kernel_rfl)); (try dsimp only at t16); refine go_in (wanted_at rfl rfl rfl tg rfl) ?_; intro K hk; obtain ⟨c0, c1, c2⟩ := (hS.own _ (.tail _ (.head _))).2.get3; clear haft hK tg hLi; go_simp; exact hS.go hk rfl
    apply LinAll.cons0
    · intro g L a x hLi haft hS hK; have t105 := hK.new 63 2 _ 105 _ rfl rfl rfl (by kernel_rfl) (waits haft 63 (by kernel_rfl)); have t106 := hK.new 64 1 _ 106 _ rfl rfl rfl (by kernel_rfl) (waits haft 64 (by kernel_rfl)); have t107 := hK.new 65 0 _ 107 _ rfl rfl rfl (by kernel_rfl) (waits haft 65 (by kernel_rfl)); have tg := hK.new 54 11 _ 96 _ rfl rfl rfl (by kernel_rfl) (waits haft 54 (by kernel_rfl)); (try dsimp only at t105 t106 t107); refine go_in (wanted_at rfl rfl rfl tg rfl) ?_; intro K hk; clear haft hK tg hLi; go_simp; refine (do_low (k := 8) (op := 20) rfl (by decide) (Wd.mk' h1 h2 (by first | assumption | exact lowop_lt (by assumption) (by assumption))) (Wd.mk' h1 h2 (by first | assumption | exact lowop_lt (by assumption) (by assumption))) _).mono ?_; rintro e y ⟨rfl, hb⟩; exact hS.on hk hb rfl
    apply LinAll.cons0
    · intro g L a x hLi haft hS hK; have t20 := (hK.old 20 (by kernel_rfl)).trans o20; have tg := hK.new 54 12 _ 96 _ rfl rfl rfl (by kernel_rfl) (waits haft 54 (by kernel_rfl)); (try dsimp only at t20); refine go_in (wanted_at rfl rfl rfl tg rfl) ?_; intro K hk; clear haft hK tg hLi; go_simp; exact hS.go hk rfl
    apply LinAll.cons0
    · intro g L a x hLi haft hS hK; have t15 := (hK.old 15 (by kernel_rfl)).trans o15; have tg := hK.new 54 13 _ 96 _ rfl rfl rfl (by kernel_rfl) (waits haft 54 (by kernel_rfl)); (try dsimp only at t15); refine go_in (wanted_at rfl rfl rfl tg rfl) ?_; intro K hk; obtain ⟨c0, c1, c2⟩ := (hS.own _ (.head _)).2.get3; clear haft hK tg hLi; go_simp; exact hS.go hk rfl
    apply LinAll.cons0
    · intro g L a x hLi haft hS hK; have t17 := (hK.old 17 (by kernel_rfl)).trans o17; have tg := hK.new 54 14 _ 96 _ rfl rfl rfl (by kernel_rfl) (waits haft 54 (by kernel_rfl)); (try dsimp only at t17); refine go_in (wanted_at rfl rfl rfl tg rfl) ?_; intro K hk; obtain ⟨c0, c1, c2⟩ := (hS.own _ (.tail _ (.tail _ (.head _)))).2.get3; clear haft hK tg hLi; go_simp; exact hS.go hk rfl
    apply LinAll.cons0
    · intro g L a x hLi haft hS hK; have t109 := hK.new 67 2 _ 109 _ rfl rfl rfl (by kernel_rfl) (waits haft 67 (by kernel_rfl)); have t110 := hK.new 68 1 _ 110 _ rfl rfl rfl (by kernel_rfl) (waits haft 68 (by kernel_rfl)); have t111 := hK.new 69 0 _ 111 _ rfl rfl rfl (by kernel_rfl) (waits haft 69 (by kernel_rfl)); have tg := hK.new 54 15 _ 96 _ rfl rfl rfl (by kernel_rfl) (waits haft 54 (by kernel_rfl)); (try dsimp only at t109 t110 t111); refine go_in (wanted_at rfl rfl rfl tg rfl) ?_; intro K hk; clear haft hK tg hLi; go_simp; refine (do_low (k := 8) (op := 20) rfl (by decide) (Wd.mk' h1 h2 (by first | assumption | exact lowop_lt (by assumption) (by assumption))) (Wd.mk' h1 h2 (by first | assumption | exact lowop_lt (by assumption) (by assumption))) _).mono ?_; rintro e y ⟨rfl, hb⟩; exact hS.on hk hb rfl
    apply LinAll.cons0
    · intro g L a x hLi haft hS hK; have t104 := hK.new 62 8 _ 104 _ rfl rfl rfl (by kernel_rfl) (waits haft 62 (by kernel_rfl)); have t108 := hK.new 66 4 _ 108 _ rfl rfl rfl (by kernel_rfl) (waits haft 66 (by kernel_rfl)); have t112 := hK.new 70 0 _ 112 _ rfl rfl rfl (by kernel_rfl) (waits haft 70 (by kernel_rfl)); have tg := hK.new 54 16 _ 96 _ rfl rfl rfl (by kernel_rfl) (waits haft 54 (by kernel_rfl)); (try dsimp only at t104 t108 t112); refine go_in (wanted_at rfl rfl rfl tg rfl) ?_; intro K hk; clear haft hK tg hLi; go_simp; refine (do_low (k := 6) (op := 18) rfl (by decide) (Wd.mk' h1 h2 (by first | assumption | exact lowop_lt (by assumption) (by assumption))) (Wd.mk' h1 h2 (by first | assumption | exact lowop_lt (by assumption) (by assumption))) _).mono ?_; rintro e y ⟨rfl, hb⟩; exact hS.on hk hb rfl
    apply LinAll.cons0
    · intro g L a x hLi haft hS hK; have t103 := hK.new 61 10 _ 103 _ rfl rfl rfl (by kernel_rfl) (waits haft 61 (by kernel_rfl)); have t113 := hK.new 71 0 _ 113 _ rfl rfl rfl (by kernel_rfl) (waits haft 71 (by kernel_rfl)); have tg := hK.new 54 17 _ 96 _ rfl rfl rfl (by kernel_rfl) (waits haft 54 (by kernel_rfl)); (try dsimp only at t103 t113); refine go_in (wanted_at rfl rfl rfl tg rfl) ?_; intro K hk; clear haft hK tg hLi; go_simp; exact hS.go hk rfl
    apply LinAll.cons0
    · intro g L a x hLi haft hS hK; have t96 := hK.new 54 18 _ 96 _ rfl rfl rfl (by kernel_rfl) (waits haft 54 (by kernel_rfl)); have t114 := hK.new 72 0 _ 114 _ rfl rfl rfl (by kernel_rfl) (waits haft 72 (by kernel_rfl)); (try dsimp only at t96 t114); refine go_in (wanted_all rfl) ?_; intro K hk; clear haft hK hLi; go_simp; exact hS.go hk rfl
    refine LinAll.nil fun g x hS => ?_
    subst ha0
    simp only [Act.put, List.setIfInBounds_toArray, List.set_cons_zero, List.set_cons_succ]
    clear o15 o16 o17 o19 o20
    have KL := And.intro (hS.own _ (.head _)).2.get3 (And.intro (hS.own _ (.tail _ (.head _))).2.get3 (And.intro (hS.own _ (.tail _ (.tail _ (.head _)))).2.get3 (hS.own _ (.tail _ (.tail _ (.tail _ (.head _))))).2.get3))
    have hBq := hS.below
    have hBs := hBq.size
    clear hS
    go_wp2_with fail
    go_meet
    case rel =>
      refine ⟨rfl, ⟨?_, ?_, ?_, ?_, ?_, ?_⟩, ⟨?_, ?_, ?_⟩, hBq⟩
      all_goals simp [KL]
  case rest =>
    obtain ⟨rfl, kA, kB, hbl1⟩ := hcut
    have hbs1 := hbl1.size
    have KF1 := And.intro kA kB
    clear kA kB HA HB HC HKH q1 q2 q3 q4 q5
    go_upto_region 8 with fail
    go_cut [134] from 116 to 134 (fun v134 X => v134 = .bool false ∧ (X.cell? ⟨w4.heap.size, 0, none⟩ = some (.int .i64 W) ∧ X.cell? ⟨w4.heap.size, 1, none⟩ = some (.int .u64 (LO (n))) ∧ X.cell? ⟨w4.heap.size, 2, none⟩ = some (.int .u64 (HI (n))) ∧ X.cell? ⟨w4.heap.size + 1, 0, none⟩ = some (.int .i64 W) ∧ X.cell? ⟨w4.heap.size + 1, 1, none⟩ = some (.int .u64 (LO (m))) ∧ X.cell? ⟨w4.heap.size + 1, 2, none⟩ = some (.int .u64 (HI (m)))) ∧ Below w.heap.size w X)
    case first =>
      refine wp_named fun a0 ha0 => ?_
      have o15 := old_at ha0 (t := 15) rfl
      have o16 := old_at ha0 (t := 16) rfl
      have o18 := old_at ha0 (t := 18) rfl
      have o19 := old_at ha0 (t := 19) rfl
      refine wp_region_lin (S := SS w wc.heap.size [(w4.heap.size, [.int .i64 W, .int .u64 (LO (n)), .int .u64 (HI (n))]), (w4.heap.size + 1, [.int .i64 W, .int .u64 (LO (m)), .int .u64 (HI (m))]), (w4.heap.size + 1 + 1 + 1, [.int .i64 W, .int .u64 1, .int .u64 0])] []) [] (fun _ => 0) (by kernel_rfl) (by kernel_rfl) (by rw [← ha0]; kernel_rfl) (SS.start (by first | assumption | go_grown) ?_) ?_
      · intro p hp; simp only [List.mem_cons, List.not_mem_nil, or_false] at hp; rcases hp with rfl | rfl | rfl; all_goals exact ⟨At.three (by simp [KF1]) (by simp [KF1]) (by simp [KF1]), by simp⟩
      apply LinAll.cons0
      · intro g L a x hLi haft hS hK; have t15 := (hK.old 15 (by kernel_rfl)).trans o15; (try dsimp only at t15); refine go_in (wanted_all rfl) ?_; intro K hk; obtain ⟨c0, c1, c2⟩ := (hS.own _ (.head _)).2.get3; clear haft hK hLi; go_simp; exact hS.go hk rfl
      apply LinAll.cons0
      · intro g L a x hLi haft hS hK; have t16 := (hK.old 16 (by kernel_rfl)).trans o16; (try dsimp only at t16); refine go_in (wanted_all rfl) ?_; intro K hk; obtain ⟨c0, c1, c2⟩ := (hS.own _ (.tail _ (.head _))).2.get3; clear haft hK hLi; go_simp; exact hS.go hk rfl
      apply LinAll.cons0
      · intro g L a x hLi haft hS hK; have t116 := hK.new 0 1 _ 116 _ rfl rfl rfl (by kernel_rfl) (waits haft 0 (by kernel_rfl)); have t117 := hK.new 1 0 _ 117 _ rfl rfl rfl (by kernel_rfl) (waits haft 1 (by kernel_rfl)); (try dsimp only at t116 t117); refine go_in (wanted_all rfl) ?_; intro K hk; clear haft hK hLi; go_simp; refine (do_low (k := 7) (op := 19) rfl (by decide) (Wd.mk' h1 h2 (by first | assumption | exact lowop_lt (by assumption) (by assumption))) (Wd.mk' h1 h2 (by first | assumption | exact lowop_lt (by assumption) (by assumption))) _).mono ?_; rintro e y ⟨rfl, hb⟩; exact hS.on hk hb rfl
      apply LinAll.cons0
      · intro g L a x hLi haft hS hK; have t19 := (hK.old 19 (by kernel_rfl)).trans o19; (try dsimp only at t19); refine go_in (wanted_all rfl) ?_; intro K hk; clear haft hK hLi; go_simp; exact hS.go hk rfl
      apply LinAll.cons0
      · intro g L a x hLi haft hS hK; have t15 := (hK.old 15 (by kernel_rfl)).trans o15; (try dsimp only at t15); refine go_in (wanted_all rfl) ?_; intro K hk; obtain ⟨c0, c1, c2⟩ := (hS.own _ (.head _)).2.get3; clear haft hK hLi; go_simp; exact hS.go hk rfl
      apply LinAll.cons0
      · intro g L a x hLi haft hS hK; have t16 := (hK.old 16 (by kernel_rfl)).trans o16; (try dsimp only at t16); refine go_in (wanted_all rfl) ?_; intro K hk; obtain ⟨c0, c1, c2⟩ := (hS.own _ (.tail _ (.head _))).2.get3; clear haft hK hLi; go_simp; exact hS.go hk rfl
      apply LinAll.cons0
      · intro g L a x hLi haft hS hK; have t121 := hK.new 5 0 _ 121 _ rfl rfl rfl (by kernel_rfl) (waits haft 5 (by kernel_rfl)); (try dsimp only at t121); refine go_in (wanted_all rfl) ?_; intro K hk; clear haft hK hLi; go_simp; refine (HGB.out _).mono ?_; rintro e y ⟨rfl, hb⟩; exact hS.on hk hb rfl
      apply LinAll.cons0
      · intro g L a x hLi haft hS hK; have t119 := hK.new 3 3 _ 119 _ rfl rfl rfl (by kernel_rfl) (waits haft 3 (by kernel_rfl)); have t120 := hK.new 4 2 _ 120 _ rfl rfl rfl (by kernel_rfl) (waits haft 4 (by kernel_rfl)); have t122 := hK.new 6 0 _ 122 _ rfl rfl rfl (by kernel_rfl) (waits haft 6 (by kernel_rfl)); (try dsimp only at t119 t120 t122); refine go_in (wanted_all rfl) ?_; intro K hk; clear haft hK hLi; go_simp; refine (do_low (k := 6) (op := 18) rfl (by decide) (Wd.mk' h1 h2 (by first | assumption | exact lowop_lt (by assumption) (by assumption))) (Wd.mk' h1 h2 (by first | assumption | exact lowop_lt (by assumption) (by assumption))) _).mono ?_; rintro e y ⟨rfl, hb⟩; exact hS.on hk hb rfl
      apply LinAll.cons0
      · intro g L a x hLi haft hS hK; have t118 := hK.new 2 5 _ 118 _ rfl rfl rfl (by kernel_rfl) (waits haft 2 (by kernel_rfl)); have t123 := hK.new 7 0 _ 123 _ rfl rfl rfl (by kernel_rfl) (waits haft 7 (by kernel_rfl)); (try dsimp only at t118 t123); refine go_in (wanted_all rfl) ?_; intro K hk; clear haft hK hLi; go_simp; exact hS.go hk rfl
      apply LinAll.cons0
      · intro g L a x hLi haft hS hK; have t124 := hK.new 8 0 _ 124 _ rfl rfl rfl (by kernel_rfl) (waits haft 8 (by kernel_rfl)); (try dsimp only at t124); refine go_in (wanted_all rfl) ?_; intro K hk; clear haft hK hLi; go_simp; exact hS.go hk rfl
      apply LinAll.cons0
      · intro g L a x hLi haft hS hK; have t15 := (hK.old 15 (by kernel_rfl)).trans o15; have tg := hK.new 9 0 _ 125 _ rfl rfl rfl (by kernel_rfl) (waits haft 9 (by kernel_rfl)); (try dsimp only at t15); refine go_in (wanted_at rfl rfl rfl tg rfl) ?_; intro K hk; obtain ⟨c0, c1, c2⟩ := (hS.own _ (.head _)).2.get3; clear haft hK tg hLi; go_simp; exact hS.go hk rfl
      apply LinAll.cons0
      · intro g L a x hLi haft hS hK; have t126 := hK.new 10 0 _ 126 _ rfl rfl rfl (by kernel_rfl) (waits haft 10 (by kernel_rfl)); have tg := hK.new 9 1 _ 125 _ rfl rfl rfl (by kernel_rfl) (waits haft 9 (by kernel_rfl)); (try dsimp only at t126); refine go_in (wanted_at rfl rfl rfl tg rfl) ?_; intro K hk; clear haft hK tg hLi; go_simp; refine (HGA.out _).mono ?_; rintro e y ⟨rfl, hb⟩; exact hS.on hk hb rfl
      apply LinAll.cons0
      · intro g L a x hLi haft hS hK; have t19 := (hK.old 19 (by kernel_rfl)).trans o19; have tg := hK.new 9 2 _ 125 _ rfl rfl rfl (by kernel_rfl) (waits haft 9 (by kernel_rfl)); (try dsimp only at t19); refine go_in (wanted_at rfl rfl rfl tg rfl) ?_; intro K hk; clear haft hK tg hLi; go_simp; exact hS.go hk rfl
      apply LinAll.cons0
      · intro g L a x hLi haft hS hK; have t15 := (hK.old 15 (by kernel_rfl)).trans o15; have tg := hK.new 9 3 _ 125 _ rfl rfl rfl (by kernel_rfl) (waits haft 9 (by kernel_rfl)); (try dsimp only at t15); refine go_in (wanted_at rfl rfl rfl tg rfl) ?_; intro K hk; obtain ⟨c0, c1, c2⟩ := (hS.own _ (.head _)).2.get3; clear haft hK tg hLi; go_simp; exact hS.go hk rfl
      apply LinAll.cons0
      · intro g L a x hLi haft hS hK; have t129 := hK.new 13 0 _ 129 _ rfl rfl rfl (by kernel_rfl) (waits haft 13 (by kernel_rfl)); have tg := hK.new 9 4 _ 125 _ rfl rfl rfl (by kernel_rfl) (waits haft 9 (by kernel_rfl)); (try dsimp only at t129); refine go_in (wanted_at rfl rfl rfl tg rfl) ?_; intro K hk; clear haft hK tg hLi; go_simp; refine (HNA.out _).mono ?_; rintro e y ⟨rfl, hb⟩; exact hS.on hk hb rfl
      apply LinAll.cons0
      · intro g L a x hLi haft hS hK; have t18 := (hK.old 18 (by kernel_rfl)).trans o18; have tg := hK.new 9 5 _ 125 _ rfl rfl rfl (by kernel_rfl) (waits haft 9 (by kernel_rfl)); (try dsimp only at t18); refine go_in (wanted_at rfl rfl rfl tg rfl) ?_; intro K hk; obtain ⟨c0, c1, c2⟩ := (hS.own _ (.tail _ (.tail _ (.head _)))).2.get3; clear haft hK tg hLi; go_simp; exact hS.go hk rfl
      apply LinAll.cons0
      · intro g L a x hLi haft hS hK; have t128 := hK.new 12 3 _ 128 _ rfl rfl rfl (by kernel_rfl) (waits haft 12 (by kernel_rfl)); have t130 := hK.new 14 1 _ 130 _ rfl rfl rfl (by kernel_rfl) (waits haft 14 (by kernel_rfl)); have t131 := hK.new 15 0 _ 131 _ rfl rfl rfl (by kernel_rfl) (waits haft 15 (by kernel_rfl)); have tg := hK.new 9 6 _ 125 _ rfl rfl rfl (by kernel_rfl) (waits haft 9 (by kernel_rfl)); (try dsimp only at t128 t130 t131); refine go_in (wanted_at rfl rfl rfl tg rfl) ?_; intro K hk; clear haft hK tg hLi; go_simp; refine (HN1.out _).mono ?_; rintro e y ⟨rfl, hb⟩; exact hS.on hk hb rfl
      apply LinAll.cons0
      · intro g L a x hLi haft hS hK; have t127 := hK.new 11 5 _ 127 _ rfl rfl rfl (by kernel_rfl) (waits haft 11 (by kernel_rfl)); have t132 := hK.new 16 0 _ 132 _ rfl rfl rfl (by kernel_rfl) (waits haft 16 (by kernel_rfl)); have tg := hK.new 9 7 _ 125 _ rfl rfl rfl (by kernel_rfl) (waits haft 9 (by kernel_rfl)); (try dsimp only at t127 t132); refine go_in (wanted_at rfl rfl rfl tg rfl) ?_; intro K hk; clear haft hK tg hLi; go_simp; exact hS.go hk rfl
      apply LinAll.cons0
      · intro g L a x hLi haft hS hK; have t125 := hK.new 9 8 _ 125 _ rfl rfl rfl (by kernel_rfl) (waits haft 9 (by kernel_rfl)); have t133 := hK.new 17 0 _ 133 _ rfl rfl rfl (by kernel_rfl) (waits haft 17 (by kernel_rfl)); (try dsimp only at t125 t133); refine go_in (wanted_all rfl) ?_; intro K hk; clear haft hK hLi; go_simp; exact hS.go hk rfl
      refine LinAll.nil fun g x hS => ?_
      subst ha0
      simp only [Act.put, List.setIfInBounds_toArray, List.set_cons_zero, List.set_cons_succ]
      clear o15 o16 o18 o19
      have KL := And.intro (hS.own _ (.head _)).2.get3 (And.intro (hS.own _ (.tail _ (.head _))).2.get3 (hS.own _ (.tail _ (.tail _ (.head _)))).2.get3)
      have hBq := hS.below
      have hBs := hBq.size
      clear hS
      go_wp2_with fail
      go_meet
      case rel =>
        refine ⟨rfl, ⟨?_, ?_, ?_, ?_, ?_, ?_⟩, hBq⟩
        all_goals simp [KL]
    case rest =>
      clear KF1 hbl1 hbs1
      obtain ⟨rfl, KF1, hbl1⟩ := hcut
      have hbs1 := hbl1.size
      clear HN1 HGA HGB q6 q7
      go_upto_region 10 with fail
      go_cut [21, 22] from 135 to 140 (fun v21 v22 X => ∃ b1 b2 : Nat, v21 = .pointer (some ⟨b1, 0, none⟩) ∧ v22 = .pointer (some ⟨b2, 0, none⟩) ∧ (X.cell? ⟨w4.heap.size, 0, none⟩ = some (.int .i64 W) ∧ X.cell? ⟨w4.heap.size, 1, none⟩ = some (.int .u64 (LO (n))) ∧ X.cell? ⟨w4.heap.size, 2, none⟩ = some (.int .u64 (HI (n))) ∧ X.cell? ⟨w4.heap.size + 1, 0, none⟩ = some (.int .i64 W) ∧ X.cell? ⟨w4.heap.size + 1, 1, none⟩ = some (.int .u64 (LO (m))) ∧ X.cell? ⟨w4.heap.size + 1, 2, none⟩ = some (.int .u64 (HI (m))) ∧ X.cell? ⟨b1, 0, none⟩ = some (.int .i64 W) ∧ X.cell? ⟨b1, 1, none⟩ = some (.int .u64 (LO (X3))) ∧ X.cell? ⟨b1, 2, none⟩ = some (.int .u64 (HI (X3))) ∧ X.cell? ⟨b2, 0, none⟩ = some (.int .i64 W) ∧ X.cell? ⟨b2, 1, none⟩ = some (.int .u64 (LO (X4))) ∧ X.cell? ⟨b2, 2, none⟩ = some (.int .u64 (HI (X4)))) ∧ Below w.heap.size w X)
      case first =>
        refine wp_named fun a0 ha0 => ?_
        have o15 := old_at ha0 (t := 15) rfl
        have o16 := old_at ha0 (t := 16) rfl
        refine wp_region_lin (S := SS w wc.heap.size [(w4.heap.size, [.int .i64 W, .int .u64 (LO (n)), .int .u64 (HI (n))]), (w4.heap.size + 1, [.int .i64 W, .int .u64 (LO (m)), .int .u64 (HI (m))])] [(6, 8, [.int .i64 W, .int .u64 (LO (X3)), .int .u64 (HI (X3))]), (7, 9, [.int .i64 W, .int .u64 (LO (X4)), .int .u64 (HI (X4))])]) [6, 7] (fun _ => 0) (by kernel_rfl) (by kernel_rfl) (by rw [← ha0]; kernel_rfl) (SS.start (by first | assumption | go_grown) ?_) ?_
        · intro p hp; simp only [List.mem_cons, List.not_mem_nil, or_false] at hp; rcases hp with rfl | rfl; all_goals exact ⟨At.three (by simp [KF1]) (by simp [KF1]) (by simp [KF1]), by simp⟩
        refine' LinAll.cons _ ?_ ?_ ?_
        rotate_left 1
        · intro g L a x hLi haft hS hK; have t15 := (hK.old 15 (by kernel_rfl)).trans o15; (try dsimp only at t15); refine go_in (wanted_all rfl) ?_; intro K hk; obtain ⟨c0, c1, c2⟩ := (hS.own _ (.head _)).2.get3; clear haft hK hLi; go_simp; exact hS.go hk rfl
        · intro i hi; simp only [List.mem_cons, List.not_mem_nil, or_false] at hi; rcases hi with rfl | rfl; (first | exact Or.inl (fun _ _ _ => rfl) | exact Or.inr (by kernel_rfl)); (first | exact Or.inl (fun _ _ _ => rfl) | exact Or.inr (by kernel_rfl))
        refine' LinAll.cons _ ?_ ?_ ?_
        rotate_left 1
        · intro g L a x hLi haft hS hK; have t16 := (hK.old 16 (by kernel_rfl)).trans o16; (try dsimp only at t16); refine go_in (wanted_all rfl) ?_; intro K hk; obtain ⟨c0, c1, c2⟩ := (hS.own _ (.tail _ (.head _))).2.get3; clear haft hK hLi; go_simp; exact hS.go hk rfl
        · intro i hi; simp only [List.mem_cons, List.not_mem_nil, or_false] at hi; rcases hi with rfl | rfl; (first | exact Or.inl (fun _ _ _ => rfl) | exact Or.inr (by kernel_rfl)); (first | exact Or.inl (fun _ _ _ => rfl) | exact Or.inr (by kernel_rfl))
        refine' LinAll.cons _ ?_ ?_ ?_
        rotate_left 1
        · intro g L a x hLi haft hS hK; have t135 := hK.new 0 1 _ 135 _ rfl rfl rfl (by kernel_rfl) (waits haft 0 (by kernel_rfl)); have t136 := hK.new 1 0 _ 136 _ rfl rfl rfl (by kernel_rfl) (waits haft 1 (by kernel_rfl)); (try dsimp only at t135 t136); refine go_in (wanted_all rfl) ?_; intro K hk; clear haft hK hLi; go_simp; refine (HD3.out _).mono ?_; rintro e y ⟨rfl, hb⟩; exact hS.on hk hb rfl
        · intro i hi; simp only [List.mem_cons, List.not_mem_nil, or_false] at hi; rcases hi with rfl | rfl; (first | exact Or.inl (fun _ _ _ => rfl) | exact Or.inr (by kernel_rfl)); (first | exact Or.inl (fun _ _ _ => rfl) | exact Or.inr (by kernel_rfl))
        refine' LinAll.cons _ ?_ ?_ ?_
        rotate_left 1
        · intro g L a x hLi haft hS hK; have t15 := (hK.old 15 (by kernel_rfl)).trans o15; (try dsimp only at t15); refine go_in (wanted_all rfl) ?_; intro K hk; obtain ⟨c0, c1, c2⟩ := (hS.own _ (.head _)).2.get3; clear haft hK hLi; go_simp; exact hS.go hk rfl
        · intro i hi; simp only [List.mem_cons, List.not_mem_nil, or_false] at hi; rcases hi with rfl | rfl; (first | exact Or.inl (fun _ _ _ => rfl) | exact Or.inr (by kernel_rfl)); (first | exact Or.inl (fun _ _ _ => rfl) | exact Or.inr (by kernel_rfl))
        refine' LinAll.cons _ ?_ ?_ ?_
        rotate_left 1
        · intro g L a x hLi haft hS hK; have t16 := (hK.old 16 (by kernel_rfl)).trans o16; (try dsimp only at t16); refine go_in (wanted_all rfl) ?_; intro K hk; obtain ⟨c0, c1, c2⟩ := (hS.own _ (.tail _ (.head _))).2.get3; clear haft hK hLi; go_simp; exact hS.go hk rfl
        · intro i hi; simp only [List.mem_cons, List.not_mem_nil, or_false] at hi; rcases hi with rfl | rfl; (first | exact Or.inl (fun _ _ _ => rfl) | exact Or.inr (by kernel_rfl)); (first | exact Or.inl (fun _ _ _ => rfl) | exact Or.inr (by kernel_rfl))
        refine' LinAll.cons _ ?_ ?_ ?_
        rotate_left 1
        · intro g L a x hLi haft hS hK; have t138 := hK.new 3 1 _ 138 _ rfl rfl rfl (by kernel_rfl) (waits haft 3 (by kernel_rfl)); have t139 := hK.new 4 0 _ 139 _ rfl rfl rfl (by kernel_rfl) (waits haft 4 (by kernel_rfl)); (try dsimp only at t138 t139); refine go_in (wanted_all rfl) ?_; intro K hk; clear haft hK hLi; go_simp; refine (HD4.out _).mono ?_; rintro e y ⟨rfl, hb⟩; exact hS.on hk hb rfl
        · intro i hi; simp only [List.mem_cons, List.not_mem_nil, or_false] at hi; rcases hi with rfl | rfl; (first | exact Or.inl (fun _ _ _ => rfl) | exact Or.inr (by kernel_rfl)); (first | exact Or.inl (fun _ _ _ => rfl) | exact Or.inr (by kernel_rfl))
        refine LinAll.cons (fun g => .pointer (some ⟨g 6, 0, none⟩)) ?_ ?_ ?_
        · intro g L a x hLi haft hS hK; refine go_in (wanted_all rfl) ?_; intro K hk; clear haft hK; go_simp; have hq := hk.out (updG g 6 x.heap.size) (x.alloc (.cells #[.int .i64 0, .int .u64 0, .int .u64 0] 24)) (updG_al (by rfl)) (hS.alloc hLi (by rfl)); dsimp only at hq; rw [updG_eq] at hq; exact hq
        · intro i hi; simp only [List.mem_cons, List.not_mem_nil, or_false] at hi; rcases hi with rfl | rfl; exact Or.inr (by kernel_rfl); exact Or.inl (fun g g' h => by simp only [h 6 (by decide)])
        refine LinAll.cons (fun g => .pointer (some ⟨g 7, 0, none⟩)) ?_ ?_ ?_
        · intro g L a x hLi haft hS hK; refine go_in (wanted_all rfl) ?_; intro K hk; clear haft hK; go_simp; have hq := hk.out (updG g 7 x.heap.size) (x.alloc (.cells #[.int .i64 0, .int .u64 0, .int .u64 0] 24)) (updG_al (by rfl)) (hS.alloc hLi (by rfl)); dsimp only at hq; rw [updG_eq] at hq; exact hq
        · intro i hi; simp only [List.mem_cons, List.not_mem_nil, or_false] at hi; rcases hi with rfl | rfl; exact Or.inl (fun g g' h => by simp only [h 7 (by decide)]); exact Or.inr (by kernel_rfl)
        refine LinAll.cons (fun _ => undef) ?_ ?_ ?_
        · intro g L a x hLi haft hS hK; have t21 := hK.new 6 1 _ 21 _ rfl rfl rfl (by kernel_rfl) (waits haft 6 (by kernel_rfl)); have t137 := hK.new 2 5 _ 137 _ rfl rfl rfl (by kernel_rfl) (waits haft 2 (by kernel_rfl)); (try dsimp only at t21 t137); refine go_in (wanted_all rfl) ?_; intro K hk; have hL6 := waits haft 6 (by kernel_rfl); obtain ⟨m1, m2, m3, m4⟩ := hS.made _ (.head _) hL6; dsimp only [List.length_cons, List.length_nil] at m3 m4; obtain ⟨u0, c0⟩ := Option.isSome_iff_exists.1 (m4 0 (by decide)); obtain ⟨u1, c1⟩ := Option.isSome_iff_exists.1 (m4 1 (by decide)); obtain ⟨u2, c2⟩ := Option.isSome_iff_exists.1 (m4 2 (by decide)); clear m1 m2 m4; clear haft hK hLi; go_simp; refine hk.out g _ (fun _ _ => rfl) (hS.store hL6 (.head _) rfl ?_); intro q hq e; simp only [List.mem_cons, List.not_mem_nil, or_false] at hq; rcases hq with rfl | rfl <;> first | rfl | exact absurd e (by simp)
        · intro i hi; simp only [List.mem_cons, List.not_mem_nil, or_false] at hi; rcases hi with rfl | rfl; (first | exact Or.inl (fun _ _ _ => rfl) | exact Or.inr (by kernel_rfl)); (first | exact Or.inl (fun _ _ _ => rfl) | exact Or.inr (by kernel_rfl))
        refine LinAll.cons (fun _ => undef) ?_ ?_ ?_
        · intro g L a x hLi haft hS hK; have t22 := hK.new 7 1 _ 22 _ rfl rfl rfl (by kernel_rfl) (waits haft 7 (by kernel_rfl)); have t140 := hK.new 5 3 _ 140 _ rfl rfl rfl (by kernel_rfl) (waits haft 5 (by kernel_rfl)); (try dsimp only at t22 t140); refine go_in (wanted_all rfl) ?_; intro K hk; have hL7 := waits haft 7 (by kernel_rfl); obtain ⟨m1, m2, m3, m4⟩ := hS.made _ (.tail _ (.head _)) hL7; dsimp only [List.length_cons, List.length_nil] at m3 m4; obtain ⟨u0, c0⟩ := Option.isSome_iff_exists.1 (m4 0 (by decide)); obtain ⟨u1, c1⟩ := Option.isSome_iff_exists.1 (m4 1 (by decide)); obtain ⟨u2, c2⟩ := Option.isSome_iff_exists.1 (m4 2 (by decide)); clear m1 m2 m4; clear haft hK hLi; go_simp; refine hk.out g _ (fun _ _ => rfl) (hS.store hL7 (.tail _ (.head _)) rfl ?_); intro q hq e; simp only [List.mem_cons, List.not_mem_nil, or_false] at hq; rcases hq with rfl | rfl <;> first | rfl | exact absurd e (by simp)
        · intro i hi; simp only [List.mem_cons, List.not_mem_nil, or_false] at hi; rcases hi with rfl | rfl; (first | exact Or.inl (fun _ _ _ => rfl) | exact Or.inr (by kernel_rfl)); (first | exact Or.inl (fun _ _ _ => rfl) | exact Or.inr (by kernel_rfl))
        refine LinAll.nil fun g x hS => ?_
        subst ha0
        simp only [Act.put, List.setIfInBounds_toArray, List.set_cons_zero, List.set_cons_succ]
        clear o15 o16
        have KL := And.intro (hS.own _ (.head _)).2.get3 (And.intro (hS.own _ (.tail _ (.head _))).2.get3 (And.intro (hS.laid _ (.head _) rfl).2.get3 (hS.laid _ (.tail _ (.head _)) rfl).2.get3))
        have hBq := hS.below
        have hBs := hBq.size
        clear hS
        go_wp2_with fail
        go_meet
        case rel =>
          refine ⟨_, _, rfl, rfl, ⟨?_, ?_, ?_, ?_, ?_, ?_, ?_, ?_, ?_, ?_, ?_, ?_⟩, hBq⟩
          all_goals simp [KL]
      case rest =>
        clear KF1 hbl1 hbs1
        obtain ⟨b1, b2, rfl, rfl, KF1, hbl1⟩ := hcut
        have hbs1 := hbl1.size
        go_upto_region 11 with fail
        go_cut [23, 24] from 141 to 144 (fun v23 v24 X => ∃ b3 b4 : Nat, v23 = .pointer (some ⟨b3, 0, none⟩) ∧ v24 = .pointer (some ⟨b4, 0, none⟩) ∧ (X.cell? ⟨w4.heap.size, 0, none⟩ = some (.int .i64 W) ∧ X.cell? ⟨w4.heap.size, 1, none⟩ = some (.int .u64 (LO (n))) ∧ X.cell? ⟨w4.heap.size, 2, none⟩ = some (.int .u64 (HI (n))) ∧ X.cell? ⟨w4.heap.size + 1, 0, none⟩ = some (.int .i64 W) ∧ X.cell? ⟨w4.heap.size + 1, 1, none⟩ = some (.int .u64 (LO (m))) ∧ X.cell? ⟨w4.heap.size + 1, 2, none⟩ = some (.int .u64 (HI (m))) ∧ X.cell? ⟨b1, 0, none⟩ = some (.int .i64 W) ∧ X.cell? ⟨b1, 1, none⟩ = some (.int .u64 (LO (X3))) ∧ X.cell? ⟨b1, 2, none⟩ = some (.int .u64 (HI (X3))) ∧ X.cell? ⟨b2, 0, none⟩ = some (.int .i64 W) ∧ X.cell? ⟨b2, 1, none⟩ = some (.int .u64 (LO (X4))) ∧ X.cell? ⟨b2, 2, none⟩ = some (.int .u64 (HI (X4))) ∧ X.cell? ⟨b3, 0, none⟩ = some (.int .i64 W) ∧ X.cell? ⟨b3, 1, none⟩ = some (.int .u64 (LO (NA))) ∧ X.cell? ⟨b3, 2, none⟩ = some (.int .u64 (HI (NA))) ∧ X.cell? ⟨b4, 0, none⟩ = some (.int .i64 W) ∧ X.cell? ⟨b4, 1, none⟩ = some (.int .u64 (LO (NB))) ∧ X.cell? ⟨b4, 2, none⟩ = some (.int .u64 (HI (NB)))) ∧ Below w.heap.size w X)
        case first =>
          refine wp_named fun a0 ha0 => ?_
          have o15 := old_at ha0 (t := 15) rfl
          have o16 := old_at ha0 (t := 16) rfl
          refine wp_region_lin (S := SS w wc.heap.size [(w4.heap.size, [.int .i64 W, .int .u64 (LO (n)), .int .u64 (HI (n))]), (w4.heap.size + 1, [.int .i64 W, .int .u64 (LO (m)), .int .u64 (HI (m))]), (b1, [.int .i64 W, .int .u64 (LO (X3)), .int .u64 (HI (X3))]), (b2, [.int .i64 W, .int .u64 (LO (X4)), .int .u64 (HI (X4))])] [(4, 6, [.int .i64 W, .int .u64 (LO (NA)), .int .u64 (HI (NA))]), (5, 7, [.int .i64 W, .int .u64 (LO (NB)), .int .u64 (HI (NB))])]) [4, 5] (fun _ => 0) (by kernel_rfl) (by kernel_rfl) (by rw [← ha0]; kernel_rfl) (SS.start (by first | assumption | go_grown) ?_) ?_
          · intro p hp; simp only [List.mem_cons, List.not_mem_nil, or_false] at hp; rcases hp with rfl | rfl | rfl | rfl; all_goals exact ⟨At.three (by simp [KF1]) (by simp [KF1]) (by simp [KF1]), by simp⟩
          refine' LinAll.cons _ ?_ ?_ ?_
          rotate_left 1
          · intro g L a x hLi haft hS hK; have t15 := (hK.old 15 (by kernel_rfl)).trans o15; (try dsimp only at t15); refine go_in (wanted_all rfl) ?_; intro K hk; obtain ⟨c0, c1, c2⟩ := (hS.own _ (.head _)).2.get3; clear haft hK hLi; go_simp; exact hS.go hk rfl
          · intro i hi; simp only [List.mem_cons, List.not_mem_nil, or_false] at hi; rcases hi with rfl | rfl; (first | exact Or.inl (fun _ _ _ => rfl) | exact Or.inr (by kernel_rfl)); (first | exact Or.inl (fun _ _ _ => rfl) | exact Or.inr (by kernel_rfl))
          refine' LinAll.cons _ ?_ ?_ ?_
          rotate_left 1
          · intro g L a x hLi haft hS hK; have t141 := hK.new 0 0 _ 141 _ rfl rfl rfl (by kernel_rfl) (waits haft 0 (by kernel_rfl)); (try dsimp only at t141); refine go_in (wanted_all rfl) ?_; intro K hk; clear haft hK hLi; go_simp; refine (HNA.out _).mono ?_; rintro e y ⟨rfl, hb⟩; exact hS.on hk hb rfl
          · intro i hi; simp only [List.mem_cons, List.not_mem_nil, or_false] at hi; rcases hi with rfl | rfl; (first | exact Or.inl (fun _ _ _ => rfl) | exact Or.inr (by kernel_rfl)); (first | exact Or.inl (fun _ _ _ => rfl) | exact Or.inr (by kernel_rfl))
          refine' LinAll.cons _ ?_ ?_ ?_
          rotate_left 1
          · intro g L a x hLi haft hS hK; have t16 := (hK.old 16 (by kernel_rfl)).trans o16; (try dsimp only at t16); refine go_in (wanted_all rfl) ?_; intro K hk; obtain ⟨c0, c1, c2⟩ := (hS.own _ (.tail _ (.head _))).2.get3; clear haft hK hLi; go_simp; exact hS.go hk rfl
          · intro i hi; simp only [List.mem_cons, List.not_mem_nil, or_false] at hi; rcases hi with rfl | rfl; (first | exact Or.inl (fun _ _ _ => rfl) | exact Or.inr (by kernel_rfl)); (first | exact Or.inl (fun _ _ _ => rfl) | exact Or.inr (by kernel_rfl))
          refine' LinAll.cons _ ?_ ?_ ?_
          rotate_left 1
          · intro g L a x hLi haft hS hK; have t143 := hK.new 2 0 _ 143 _ rfl rfl rfl (by kernel_rfl) (waits haft 2 (by kernel_rfl)); (try dsimp only at t143); refine go_in (wanted_all rfl) ?_; intro K hk; clear haft hK hLi; go_simp; refine (HNB.out _).mono ?_; rintro e y ⟨rfl, hb⟩; exact hS.on hk hb rfl
          · intro i hi; simp only [List.mem_cons, List.not_mem_nil, or_false] at hi; rcases hi with rfl | rfl; (first | exact Or.inl (fun _ _ _ => rfl) | exact Or.inr (by kernel_rfl)); (first | exact Or.inl (fun _ _ _ => rfl) | exact Or.inr (by kernel_rfl))
          refine LinAll.cons (fun g => .pointer (some ⟨g 4, 0, none⟩)) ?_ ?_ ?_
          · intro g L a x hLi haft hS hK; refine go_in (wanted_all rfl) ?_; intro K hk; clear haft hK; go_simp; have hq := hk.out (updG g 4 x.heap.size) (x.alloc (.cells #[.int .i64 0, .int .u64 0, .int .u64 0] 24)) (updG_al (by rfl)) (hS.alloc hLi (by rfl)); dsimp only at hq; rw [updG_eq] at hq; exact hq
          · intro i hi; simp only [List.mem_cons, List.not_mem_nil, or_false] at hi; rcases hi with rfl | rfl; exact Or.inr (by kernel_rfl); exact Or.inl (fun g g' h => by simp only [h 4 (by decide)])
          refine LinAll.cons (fun g => .pointer (some ⟨g 5, 0, none⟩)) ?_ ?_ ?_
          · intro g L a x hLi haft hS hK; refine go_in (wanted_all rfl) ?_; intro K hk; clear haft hK; go_simp; have hq := hk.out (updG g 5 x.heap.size) (x.alloc (.cells #[.int .i64 0, .int .u64 0, .int .u64 0] 24)) (updG_al (by rfl)) (hS.alloc hLi (by rfl)); dsimp only at hq; rw [updG_eq] at hq; exact hq
          · intro i hi; simp only [List.mem_cons, List.not_mem_nil, or_false] at hi; rcases hi with rfl | rfl; exact Or.inl (fun g g' h => by simp only [h 5 (by decide)]); exact Or.inr (by kernel_rfl)
          refine LinAll.cons (fun _ => undef) ?_ ?_ ?_
          · intro g L a x hLi haft hS hK; have t23 := hK.new 4 1 _ 23 _ rfl rfl rfl (by kernel_rfl) (waits haft 4 (by kernel_rfl)); have t142 := hK.new 1 4 _ 142 _ rfl rfl rfl (by kernel_rfl) (waits haft 1 (by kernel_rfl)); (try dsimp only at t23 t142); refine go_in (wanted_all rfl) ?_; intro K hk; have hL4 := waits haft 4 (by kernel_rfl); obtain ⟨m1, m2, m3, m4⟩ := hS.made _ (.head _) hL4; dsimp only [List.length_cons, List.length_nil] at m3 m4; obtain ⟨u0, c0⟩ := Option.isSome_iff_exists.1 (m4 0 (by decide)); obtain ⟨u1, c1⟩ := Option.isSome_iff_exists.1 (m4 1 (by decide)); obtain ⟨u2, c2⟩ := Option.isSome_iff_exists.1 (m4 2 (by decide)); clear m1 m2 m4; clear haft hK hLi; go_simp; refine hk.out g _ (fun _ _ => rfl) (hS.store hL4 (.head _) rfl ?_); intro q hq e; simp only [List.mem_cons, List.not_mem_nil, or_false] at hq; rcases hq with rfl | rfl <;> first | rfl | exact absurd e (by simp)
          · intro i hi; simp only [List.mem_cons, List.not_mem_nil, or_false] at hi; rcases hi with rfl | rfl; (first | exact Or.inl (fun _ _ _ => rfl) | exact Or.inr (by kernel_rfl)); (first | exact Or.inl (fun _ _ _ => rfl) | exact Or.inr (by kernel_rfl))
          refine LinAll.cons (fun _ => undef) ?_ ?_ ?_
          · intro g L a x hLi haft hS hK; have t24 := hK.new 5 1 _ 24 _ rfl rfl rfl (by kernel_rfl) (waits haft 5 (by kernel_rfl)); have t144 := hK.new 3 3 _ 144 _ rfl rfl rfl (by kernel_rfl) (waits haft 3 (by kernel_rfl)); (try dsimp only at t24 t144); refine go_in (wanted_all rfl) ?_; intro K hk; have hL5 := waits haft 5 (by kernel_rfl); obtain ⟨m1, m2, m3, m4⟩ := hS.made _ (.tail _ (.head _)) hL5; dsimp only [List.length_cons, List.length_nil] at m3 m4; obtain ⟨u0, c0⟩ := Option.isSome_iff_exists.1 (m4 0 (by decide)); obtain ⟨u1, c1⟩ := Option.isSome_iff_exists.1 (m4 1 (by decide)); obtain ⟨u2, c2⟩ := Option.isSome_iff_exists.1 (m4 2 (by decide)); clear m1 m2 m4; clear haft hK hLi; go_simp; refine hk.out g _ (fun _ _ => rfl) (hS.store hL5 (.tail _ (.head _)) rfl ?_); intro q hq e; simp only [List.mem_cons, List.not_mem_nil, or_false] at hq; rcases hq with rfl | rfl <;> first | rfl | exact absurd e (by simp)
          · intro i hi; simp only [List.mem_cons, List.not_mem_nil, or_false] at hi; rcases hi with rfl | rfl; (first | exact Or.inl (fun _ _ _ => rfl) | exact Or.inr (by kernel_rfl)); (first | exact Or.inl (fun _ _ _ => rfl) | exact Or.inr (by kernel_rfl))
          refine LinAll.nil fun g x hS => ?_
          subst ha0
          simp only [Act.put, List.setIfInBounds_toArray, List.set_cons_zero, List.set_cons_succ]
          clear o15 o16
          have KL := And.intro (hS.own _ (.head _)).2.get3 (And.intro (hS.own _ (.tail _ (.head _))).2.get3 (And.intro (hS.own _ (.tail _ (.tail _ (.head _)))).2.get3 (And.intro (hS.own _ (.tail _ (.tail _ (.tail _ (.head _))))).2.get3 (And.intro (hS.laid _ (.head _) rfl).2.get3 (hS.laid _ (.tail _ (.head _)) rfl).2.get3))))
          have hBq := hS.below
          have hBs := hBq.size
          clear hS
          go_wp2_with fail
          go_meet
          case rel =>
            refine ⟨_, _, rfl, rfl, ⟨?_, ?_, ?_, ?_, ?_, ?_, ?_, ?_, ?_, ?_, ?_, ?_, ?_, ?_, ?_, ?_, ?_, ?_⟩, hBq⟩
            all_goals simp [KL]
        case rest =>
          clear KF1 hbl1 hbs1
          obtain ⟨b3, b4, rfl, rfl, KF1, hbl1⟩ := hcut
          have hbs1 := hbl1.size
          go_wp2_with fail
          refine wp_named fun a0 ha0 => ?_
          have o15 := old_at ha0 (t := 15) rfl
          have o16 := old_at ha0 (t := 16) rfl
          have o19 := old_at ha0 (t := 19) rfl
          have o21 := old_at ha0 (t := 21) rfl
          have o22 := old_at ha0 (t := 22) rfl
          have o23 := old_at ha0 (t := 23) rfl
          have o24 := old_at ha0 (t := 24) rfl
          refine wp_region_lin (S := SS w wc.heap.size [(w4.heap.size, [.int .i64 W, .int .u64 (LO (n)), .int .u64 (HI (n))]), (w4.heap.size + 1, [.int .i64 W, .int .u64 (LO (m)), .int .u64 (HI (m))]), (b1, [.int .i64 W, .int .u64 (LO (X3)), .int .u64 (HI (X3))]), (b2, [.int .i64 W, .int .u64 (LO (X4)), .int .u64 (HI (X4))]), (b3, [.int .i64 W, .int .u64 (LO (NA)), .int .u64 (HI (NA))]), (b4, [.int .i64 W, .int .u64 (LO (NB)), .int .u64 (HI (NB))])] []) [] (fun _ => 0) (by kernel_rfl) (by kernel_rfl) (by rw [← ha0]; kernel_rfl) (SS.start (by first | assumption | go_grown) ?_) ?_
          · intro p hp; simp only [List.mem_cons, List.not_mem_nil, or_false] at hp; rcases hp with rfl | rfl | rfl | rfl | rfl | rfl; all_goals exact ⟨At.three (by simp [KF1]) (by simp [KF1]) (by simp [KF1]), by simp⟩
          apply LinAll.cons0
          · intro g L a x hLi haft hS hK; have t21 := (hK.old 21 (by kernel_rfl)).trans o21; (try dsimp only at t21); refine go_in (wanted_all rfl) ?_; intro K hk; obtain ⟨c0, c1, c2⟩ := (hS.own _ (.tail _ (.tail _ (.head _)))).2.get3; clear haft hK hLi; go_simp; exact hS.go hk rfl
          apply LinAll.cons0
          · intro g L a x hLi haft hS hK; have t23 := (hK.old 23 (by kernel_rfl)).trans o23; (try dsimp only at t23); refine go_in (wanted_all rfl) ?_; intro K hk; obtain ⟨c0, c1, c2⟩ := (hS.own _ (.tail _ (.tail _ (.tail _ (.tail _ (.head _)))))).2.get3; clear haft hK hLi; go_simp; exact hS.go hk rfl
          apply LinAll.cons0
          · intro g L a x hLi haft hS hK; have t24 := (hK.old 24 (by kernel_rfl)).trans o24; (try dsimp only at t24); refine go_in (wanted_all rfl) ?_; intro K hk; obtain ⟨c0, c1, c2⟩ := (hS.own _ (.tail _ (.tail _ (.tail _ (.tail _ (.tail _ (.head _))))))).2.get3; clear haft hK hLi; go_simp; exact hS.go hk rfl
          apply LinAll.cons0
          · intro g L a x hLi haft hS hK; have t146 := hK.new 1 1 _ 146 _ rfl rfl rfl (by kernel_rfl) (waits haft 1 (by kernel_rfl)); have t147 := hK.new 2 0 _ 147 _ rfl rfl rfl (by kernel_rfl) (waits haft 2 (by kernel_rfl)); (try dsimp only at t146 t147); refine go_in (wanted_all rfl) ?_; intro K hk; clear haft hK hLi; go_simp; refine (do_low (k := 1) (op := 13) rfl (by decide) (Wd.mk' h1 h2 (by first | assumption | exact lowop_lt (by assumption) (by assumption))) (Wd.mk' h1 h2 (by first | assumption | exact lowop_lt (by assumption) (by assumption))) _).mono ?_; rintro e y ⟨rfl, hb⟩; exact hS.on hk hb rfl
          apply LinAll.cons0
          · intro g L a x hLi haft hS hK; have t145 := hK.new 0 3 _ 145 _ rfl rfl rfl (by kernel_rfl) (waits haft 0 (by kernel_rfl)); have t148 := hK.new 3 0 _ 148 _ rfl rfl rfl (by kernel_rfl) (waits haft 3 (by kernel_rfl)); (try dsimp only at t145 t148); refine go_in (wanted_all rfl) ?_; intro K hk; clear haft hK hLi; go_simp; exact hS.go hk rfl
          apply LinAll.cons0
          · intro g L a x hLi haft hS hK; have t149 := hK.new 4 0 _ 149 _ rfl rfl rfl (by kernel_rfl) (waits haft 4 (by kernel_rfl)); (try dsimp only at t149); refine go_in (wanted_all rfl) ?_; intro K hk; clear haft hK hLi; go_simp; exact hS.go hk rfl
          apply LinAll.cons0
          · intro g L a x hLi haft hS hK; have t22 := (hK.old 22 (by kernel_rfl)).trans o22; have tg := hK.new 5 0 _ 150 _ rfl rfl rfl (by kernel_rfl) (waits haft 5 (by kernel_rfl)); (try dsimp only at t22); refine go_in (wanted_at rfl rfl rfl tg rfl) ?_; intro K hk; obtain ⟨c0, c1, c2⟩ := (hS.own _ (.tail _ (.tail _ (.tail _ (.head _))))).2.get3; clear haft hK tg hLi; go_simp; exact hS.go hk rfl
          apply LinAll.cons0
          · intro g L a x hLi haft hS hK; have t23 := (hK.old 23 (by kernel_rfl)).trans o23; have tg := hK.new 5 1 _ 150 _ rfl rfl rfl (by kernel_rfl) (waits haft 5 (by kernel_rfl)); (try dsimp only at t23); refine go_in (wanted_at rfl rfl rfl tg rfl) ?_; intro K hk; obtain ⟨c0, c1, c2⟩ := (hS.own _ (.tail _ (.tail _ (.tail _ (.tail _ (.head _)))))).2.get3; clear haft hK tg hLi; go_simp; exact hS.go hk rfl
          apply LinAll.cons0
          · intro g L a x hLi haft hS hK; have t24 := (hK.old 24 (by kernel_rfl)).trans o24; have tg := hK.new 5 2 _ 150 _ rfl rfl rfl (by kernel_rfl) (waits haft 5 (by kernel_rfl)); (try dsimp only at t24); refine go_in (wanted_at rfl rfl rfl tg rfl) ?_; intro K hk; obtain ⟨c0, c1, c2⟩ := (hS.own _ (.tail _ (.tail _ (.tail _ (.tail _ (.tail _ (.head _))))))).2.get3; clear haft hK tg hLi; go_simp; exact hS.go hk rfl
          apply LinAll.cons0
          · intro g L a x hLi haft hS hK; have t152 := hK.new 7 1 _ 152 _ rfl rfl rfl (by kernel_rfl) (waits haft 7 (by kernel_rfl)); have t153 := hK.new 8 0 _ 153 _ rfl rfl rfl (by kernel_rfl) (waits haft 8 (by kernel_rfl)); have tg := hK.new 5 3 _ 150 _ rfl rfl rfl (by kernel_rfl) (waits haft 5 (by kernel_rfl)); (try dsimp only at t152 t153); refine go_in (wanted_at rfl rfl rfl tg rfl) ?_; intro K hk; clear haft hK tg hLi; go_simp; refine (do_low (k := 0) (op := 12) rfl (by decide) (Wd.mk' h1 h2 (by first | assumption | exact lowop_lt (by assumption) (by assumption))) (Wd.mk' h1 h2 (by first | assumption | exact lowop_lt (by assumption) (by assumption))) _).mono ?_; rintro e y ⟨rfl, hb⟩; exact hS.on hk hb rfl
          apply LinAll.cons0
          · intro g L a x hLi haft hS hK; have t151 := hK.new 6 3 _ 151 _ rfl rfl rfl (by kernel_rfl) (waits haft 6 (by kernel_rfl)); have t154 := hK.new 9 0 _ 154 _ rfl rfl rfl (by kernel_rfl) (waits haft 9 (by kernel_rfl)); have tg := hK.new 5 4 _ 150 _ rfl rfl rfl (by kernel_rfl) (waits haft 5 (by kernel_rfl)); (try dsimp only at t151 t154); refine go_in (wanted_at rfl rfl rfl tg rfl) ?_; intro K hk; clear haft hK tg hLi; go_simp; exact hS.go hk rfl
          apply LinAll.cons0
          · intro g L a x hLi haft hS hK; have t150 := hK.new 5 5 _ 150 _ rfl rfl rfl (by kernel_rfl) (waits haft 5 (by kernel_rfl)); have t155 := hK.new 10 0 _ 155 _ rfl rfl rfl (by kernel_rfl) (waits haft 10 (by kernel_rfl)); (try dsimp only at t150 t155); refine go_in (wanted_all rfl) ?_; intro K hk; clear haft hK hLi; go_simp; exact hS.go hk rfl
          apply LinAll.cons0
          · intro g L a x hLi haft hS hK; have t156 := hK.new 11 0 _ 156 _ rfl rfl rfl (by kernel_rfl) (waits haft 11 (by kernel_rfl)); (try dsimp only at t156); refine go_in (wanted_all rfl) ?_; intro K hk; clear haft hK hLi; go_simp; exact hS.go hk rfl
          apply LinAll.cons0
          · intro g L a x hLi haft hS hK; have t15 := (hK.old 15 (by kernel_rfl)).trans o15; have tg := hK.new 12 0 _ 157 _ rfl rfl rfl (by kernel_rfl) (waits haft 12 (by kernel_rfl)); (try dsimp only at t15); refine go_in (wanted_at rfl rfl rfl tg rfl) ?_; intro K hk; obtain ⟨c0, c1, c2⟩ := (hS.own _ (.head _)).2.get3; clear haft hK tg hLi; go_simp; exact hS.go hk rfl
          apply LinAll.cons0
          · intro g L a x hLi haft hS hK; have t16 := (hK.old 16 (by kernel_rfl)).trans o16; have tg := hK.new 12 1 _ 157 _ rfl rfl rfl (by kernel_rfl) (waits haft 12 (by kernel_rfl)); (try dsimp only at t16); refine go_in (wanted_at rfl rfl rfl tg rfl) ?_; intro K hk; obtain ⟨c0, c1, c2⟩ := (hS.own _ (.tail _ (.head _))).2.get3; clear haft hK tg hLi; go_simp; exact hS.go hk rfl
          apply LinAll.cons0
          · intro g L a x hLi haft hS hK; have t158 := hK.new 13 1 _ 158 _ rfl rfl rfl (by kernel_rfl) (waits haft 13 (by kernel_rfl)); have t159 := hK.new 14 0 _ 159 _ rfl rfl rfl (by kernel_rfl) (waits haft 14 (by kernel_rfl)); have tg := hK.new 12 2 _ 157 _ rfl rfl rfl (by kernel_rfl) (waits haft 12 (by kernel_rfl)); (try dsimp only at t158 t159); refine go_in (wanted_at rfl rfl rfl tg rfl) ?_; intro K hk; clear haft hK tg hLi; go_simp; refine (do_low (k := 5) (op := 17) rfl (by decide) (Wd.mk' h1 h2 (by first | assumption | exact lowop_lt (by assumption) (by assumption))) (Wd.mk' h1 h2 (by first | assumption | exact lowop_lt (by assumption) (by assumption))) _).mono ?_; rintro e y ⟨rfl, hb⟩; exact hS.on hk hb rfl
          apply LinAll.cons0
          · intro g L a x hLi haft hS hK; have t15 := (hK.old 15 (by kernel_rfl)).trans o15; have tg := hK.new 12 3 _ 157 _ rfl rfl rfl (by kernel_rfl) (waits haft 12 (by kernel_rfl)); (try dsimp only at t15); refine go_in (wanted_at rfl rfl rfl tg rfl) ?_; intro K hk; obtain ⟨c0, c1, c2⟩ := (hS.own _ (.head _)).2.get3; clear haft hK tg hLi; go_simp; exact hS.go hk rfl
          apply LinAll.cons0
          · intro g L a x hLi haft hS hK; have t16 := (hK.old 16 (by kernel_rfl)).trans o16; have tg := hK.new 12 4 _ 157 _ rfl rfl rfl (by kernel_rfl) (waits haft 12 (by kernel_rfl)); (try dsimp only at t16); refine go_in (wanted_at rfl rfl rfl tg rfl) ?_; intro K hk; obtain ⟨c0, c1, c2⟩ := (hS.own _ (.tail _ (.head _))).2.get3; clear haft hK tg hLi; go_simp; exact hS.go hk rfl
          apply LinAll.cons0
          · intro g L a x hLi haft hS hK; have t161 := hK.new 16 1 _ 161 _ rfl rfl rfl (by kernel_rfl) (waits haft 16 (by kernel_rfl)); have t162 := hK.new 17 0 _ 162 _ rfl rfl rfl (by kernel_rfl) (waits haft 17 (by kernel_rfl)); have tg := hK.new 12 5 _ 157 _ rfl rfl rfl (by kernel_rfl) (waits haft 12 (by kernel_rfl)); (try dsimp only at t161 t162); refine go_in (wanted_at rfl rfl rfl tg rfl) ?_; intro K hk; clear haft hK tg hLi; go_simp; refine (do_low (k := 2) (op := 14) rfl (by decide) (Wd.mk' h1 h2 (by first | assumption | exact lowop_lt (by assumption) (by assumption))) (Wd.mk' h1 h2 (by first | assumption | exact lowop_lt (by assumption) (by assumption))) _).mono ?_; rintro e y ⟨rfl, hb⟩; exact hS.on hk hb rfl
          apply LinAll.cons0
          · intro g L a x hLi haft hS hK; have t163 := hK.new 18 0 _ 163 _ rfl rfl rfl (by kernel_rfl) (waits haft 18 (by kernel_rfl)); have tg := hK.new 12 6 _ 157 _ rfl rfl rfl (by kernel_rfl) (waits haft 12 (by kernel_rfl)); (try dsimp only at t163); refine go_in (wanted_at rfl rfl rfl tg rfl) ?_; intro K hk; clear haft hK tg hLi; go_simp; refine (HNX.out _).mono ?_; rintro e y ⟨rfl, hb⟩; exact hS.on hk hb rfl
          apply LinAll.cons0
          · intro g L a x hLi haft hS hK; have t160 := hK.new 15 4 _ 160 _ rfl rfl rfl (by kernel_rfl) (waits haft 15 (by kernel_rfl)); have t164 := hK.new 19 0 _ 164 _ rfl rfl rfl (by kernel_rfl) (waits haft 19 (by kernel_rfl)); have tg := hK.new 12 7 _ 157 _ rfl rfl rfl (by kernel_rfl) (waits haft 12 (by kernel_rfl)); (try dsimp only at t160 t164); refine go_in (wanted_at rfl rfl rfl tg rfl) ?_; intro K hk; clear haft hK tg hLi; go_simp; exact hS.go hk rfl
          apply LinAll.cons0
          · intro g L a x hLi haft hS hK; have t157 := hK.new 12 8 _ 157 _ rfl rfl rfl (by kernel_rfl) (waits haft 12 (by kernel_rfl)); have t165 := hK.new 20 0 _ 165 _ rfl rfl rfl (by kernel_rfl) (waits haft 20 (by kernel_rfl)); (try dsimp only at t157 t165); refine go_in (wanted_all rfl) ?_; intro K hk; clear haft hK hLi; go_simp; exact hS.go hk rfl
          apply LinAll.cons0
          · intro g L a x hLi haft hS hK; have t166 := hK.new 21 0 _ 166 _ rfl rfl rfl (by kernel_rfl) (waits haft 21 (by kernel_rfl)); (try dsimp only at t166); refine go_in (wanted_all rfl) ?_; intro K hk; clear haft hK hLi; go_simp; exact hS.go hk rfl
          apply LinAll.cons0
          · intro g L a x hLi haft hS hK; have t15 := (hK.old 15 (by kernel_rfl)).trans o15; have tg := hK.new 22 0 _ 167 _ rfl rfl rfl (by kernel_rfl) (waits haft 22 (by kernel_rfl)); (try dsimp only at t15); refine go_in (wanted_at rfl rfl rfl tg rfl) ?_; intro K hk; obtain ⟨c0, c1, c2⟩ := (hS.own _ (.head _)).2.get3; clear haft hK tg hLi; go_simp; exact hS.go hk rfl
          apply LinAll.cons0
          · intro g L a x hLi haft hS hK; have t16 := (hK.old 16 (by kernel_rfl)).trans o16; have tg := hK.new 22 1 _ 167 _ rfl rfl rfl (by kernel_rfl) (waits haft 22 (by kernel_rfl)); (try dsimp only at t16); refine go_in (wanted_at rfl rfl rfl tg rfl) ?_; intro K hk; obtain ⟨c0, c1, c2⟩ := (hS.own _ (.tail _ (.head _))).2.get3; clear haft hK tg hLi; go_simp; exact hS.go hk rfl
          apply LinAll.cons0
          · intro g L a x hLi haft hS hK; have t168 := hK.new 23 1 _ 168 _ rfl rfl rfl (by kernel_rfl) (waits haft 23 (by kernel_rfl)); have t169 := hK.new 24 0 _ 169 _ rfl rfl rfl (by kernel_rfl) (waits haft 24 (by kernel_rfl)); have tg := hK.new 22 2 _ 167 _ rfl rfl rfl (by kernel_rfl) (waits haft 22 (by kernel_rfl)); (try dsimp only at t168 t169); refine go_in (wanted_at rfl rfl rfl tg rfl) ?_; intro K hk; clear haft hK tg hLi; go_simp; refine (do_low (k := 2) (op := 14) rfl (by decide) (Wd.mk' h1 h2 (by first | assumption | exact lowop_lt (by assumption) (by assumption))) (Wd.mk' h1 h2 (by first | assumption | exact lowop_lt (by assumption) (by assumption))) _).mono ?_; rintro e y ⟨rfl, hb⟩; exact hS.on hk hb rfl
          apply LinAll.cons0
          · intro g L a x hLi haft hS hK; have t16 := (hK.old 16 (by kernel_rfl)).trans o16; have tg := hK.new 22 3 _ 167 _ rfl rfl rfl (by kernel_rfl) (waits haft 22 (by kernel_rfl)); (try dsimp only at t16); refine go_in (wanted_at rfl rfl rfl tg rfl) ?_; intro K hk; obtain ⟨c0, c1, c2⟩ := (hS.own _ (.tail _ (.head _))).2.get3; clear haft hK tg hLi; go_simp; exact hS.go hk rfl
          apply LinAll.cons0
          · intro g L a x hLi haft hS hK; have t170 := hK.new 25 1 _ 170 _ rfl rfl rfl (by kernel_rfl) (waits haft 25 (by kernel_rfl)); have t171 := hK.new 26 0 _ 171 _ rfl rfl rfl (by kernel_rfl) (waits haft 26 (by kernel_rfl)); have tg := hK.new 22 4 _ 167 _ rfl rfl rfl (by kernel_rfl) (waits haft 22 (by kernel_rfl)); (try dsimp only at t170 t171); refine go_in (wanted_at rfl rfl rfl tg rfl) ?_; intro K hk; clear haft hK tg hLi; go_simp; refine (do_low (k := 2) (op := 14) rfl (by decide) (Wd.mk' h1 h2 (by first | assumption | exact lowop_lt (by assumption) (by assumption))) (Wd.mk' h1 h2 (by first | assumption | exact lowop_lt (by assumption) (by assumption))) _).mono ?_; rintro e y ⟨rfl, hb⟩; exact hS.on hk hb rfl
          apply LinAll.cons0
          · intro g L a x hLi haft hS hK; have t15 := (hK.old 15 (by kernel_rfl)).trans o15; have tg := hK.new 22 5 _ 167 _ rfl rfl rfl (by kernel_rfl) (waits haft 22 (by kernel_rfl)); (try dsimp only at t15); refine go_in (wanted_at rfl rfl rfl tg rfl) ?_; intro K hk; obtain ⟨c0, c1, c2⟩ := (hS.own _ (.head _)).2.get3; clear haft hK tg hLi; go_simp; exact hS.go hk rfl
          apply LinAll.cons0
          · intro g L a x hLi haft hS hK; have t172 := hK.new 27 1 _ 172 _ rfl rfl rfl (by kernel_rfl) (waits haft 27 (by kernel_rfl)); have t173 := hK.new 28 0 _ 173 _ rfl rfl rfl (by kernel_rfl) (waits haft 28 (by kernel_rfl)); have tg := hK.new 22 6 _ 167 _ rfl rfl rfl (by kernel_rfl) (waits haft 22 (by kernel_rfl)); (try dsimp only at t172 t173); refine go_in (wanted_at rfl rfl rfl tg rfl) ?_; intro K hk; clear haft hK tg hLi; go_simp; exact hS.go hk rfl
          apply LinAll.cons0
          · intro g L a x hLi haft hS hK; have t167 := hK.new 22 7 _ 167 _ rfl rfl rfl (by kernel_rfl) (waits haft 22 (by kernel_rfl)); have t174 := hK.new 29 0 _ 174 _ rfl rfl rfl (by kernel_rfl) (waits haft 29 (by kernel_rfl)); (try dsimp only at t167 t174); refine go_in (wanted_all rfl) ?_; intro K hk; clear haft hK hLi; go_simp; exact hS.go hk rfl
          apply LinAll.cons0
          · intro g L a x hLi haft hS hK; have t175 := hK.new 30 0 _ 175 _ rfl rfl rfl (by kernel_rfl) (waits haft 30 (by kernel_rfl)); (try dsimp only at t175); refine go_in (wanted_all rfl) ?_; intro K hk; clear haft hK hLi; go_simp; exact hS.go hk rfl
          apply LinAll.cons0
          · intro g L a x hLi haft hS hK; have t19 := (hK.old 19 (by kernel_rfl)).trans o19; have tg := hK.new 31 0 _ 176 _ rfl rfl rfl (by kernel_rfl) (waits haft 31 (by kernel_rfl)); (try dsimp only at t19); refine go_in (wanted_at rfl rfl rfl tg rfl) ?_; intro K hk; clear haft hK tg hLi; go_simp; exact hS.go hk rfl
          apply LinAll.cons0
          · intro g L a x hLi haft hS hK; have t15 := (hK.old 15 (by kernel_rfl)).trans o15; have tg := hK.new 31 1 _ 176 _ rfl rfl rfl (by kernel_rfl) (waits haft 31 (by kernel_rfl)); (try dsimp only at t15); refine go_in (wanted_at rfl rfl rfl tg rfl) ?_; intro K hk; obtain ⟨c0, c1, c2⟩ := (hS.own _ (.head _)).2.get3; clear haft hK tg hLi; go_simp; exact hS.go hk rfl
          apply LinAll.cons0
          · intro g L a x hLi haft hS hK; have t16 := (hK.old 16 (by kernel_rfl)).trans o16; have tg := hK.new 31 2 _ 176 _ rfl rfl rfl (by kernel_rfl) (waits haft 31 (by kernel_rfl)); (try dsimp only at t16); refine go_in (wanted_at rfl rfl rfl tg rfl) ?_; intro K hk; obtain ⟨c0, c1, c2⟩ := (hS.own _ (.tail _ (.head _))).2.get3; clear haft hK tg hLi; go_simp; exact hS.go hk rfl
          apply LinAll.cons0
          · intro g L a x hLi haft hS hK; have t178 := hK.new 33 1 _ 178 _ rfl rfl rfl (by kernel_rfl) (waits haft 33 (by kernel_rfl)); have t179 := hK.new 34 0 _ 179 _ rfl rfl rfl (by kernel_rfl) (waits haft 34 (by kernel_rfl)); have tg := hK.new 31 3 _ 176 _ rfl rfl rfl (by kernel_rfl) (waits haft 31 (by kernel_rfl)); (try dsimp only at t178 t179); refine go_in (wanted_at rfl rfl rfl tg rfl) ?_; intro K hk; clear haft hK tg hLi; go_simp; refine (do_low (k := 0) (op := 12) rfl (by decide) (Wd.mk' h1 h2 (by first | assumption | exact lowop_lt (by assumption) (by assumption))) (Wd.mk' h1 h2 (by first | assumption | exact lowop_lt (by assumption) (by assumption))) _).mono ?_; rintro e y ⟨rfl, hb⟩; exact hS.on hk hb rfl
          apply LinAll.cons0
          · intro g L a x hLi haft hS hK; have t15 := (hK.old 15 (by kernel_rfl)).trans o15; have tg := hK.new 31 4 _ 176 _ rfl rfl rfl (by kernel_rfl) (waits haft 31 (by kernel_rfl)); (try dsimp only at t15); refine go_in (wanted_at rfl rfl rfl tg rfl) ?_; intro K hk; obtain ⟨c0, c1, c2⟩ := (hS.own _ (.head _)).2.get3; clear haft hK tg hLi; go_simp; exact hS.go hk rfl
          apply LinAll.cons0
          · intro g L a x hLi haft hS hK; have t16 := (hK.old 16 (by kernel_rfl)).trans o16; have tg := hK.new 31 5 _ 176 _ rfl rfl rfl (by kernel_rfl) (waits haft 31 (by kernel_rfl)); (try dsimp only at t16); refine go_in (wanted_at rfl rfl rfl tg rfl) ?_; intro K hk; obtain ⟨c0, c1, c2⟩ := (hS.own _ (.tail _ (.head _))).2.get3; clear haft hK tg hLi; go_simp; exact hS.go hk rfl
          apply LinAll.cons0
          · intro g L a x hLi haft hS hK; have t181 := hK.new 36 1 _ 181 _ rfl rfl rfl (by kernel_rfl) (waits haft 36 (by kernel_rfl)); have t182 := hK.new 37 0 _ 182 _ rfl rfl rfl (by kernel_rfl) (waits haft 37 (by kernel_rfl)); have tg := hK.new 31 6 _ 176 _ rfl rfl rfl (by kernel_rfl) (waits haft 31 (by kernel_rfl)); (try dsimp only at t181 t182); refine go_in (wanted_at rfl rfl rfl tg rfl) ?_; intro K hk; clear haft hK tg hLi; go_simp; refine (do_low (k := 1) (op := 13) rfl (by decide) (Wd.mk' h1 h2 (by first | assumption | exact lowop_lt (by assumption) (by assumption))) (Wd.mk' h1 h2 (by first | assumption | exact lowop_lt (by assumption) (by assumption))) _).mono ?_; rintro e y ⟨rfl, hb⟩; exact hS.on hk hb rfl
          apply LinAll.cons0
          · intro g L a x hLi haft hS hK; have t177 := hK.new 32 6 _ 177 _ rfl rfl rfl (by kernel_rfl) (waits haft 32 (by kernel_rfl)); have t180 := hK.new 35 3 _ 180 _ rfl rfl rfl (by kernel_rfl) (waits haft 35 (by kernel_rfl)); have t183 := hK.new 38 0 _ 183 _ rfl rfl rfl (by kernel_rfl) (waits haft 38 (by kernel_rfl)); have tg := hK.new 31 7 _ 176 _ rfl rfl rfl (by kernel_rfl) (waits haft 31 (by kernel_rfl)); (try dsimp only at t177 t180 t183); refine go_in (wanted_at rfl rfl rfl tg rfl) ?_; intro K hk; clear haft hK tg hLi; go_simp; refine (do_low (k := 6) (op := 18) rfl (by decide) (Wd.mk' h1 h2 (by first | assumption | exact lowop_lt (by assumption) (by assumption))) (Wd.mk' h1 h2 (by first | assumption | exact lowop_lt (by assumption) (by assumption))) _).mono ?_; rintro e y ⟨rfl, hb⟩; exact hS.on hk hb rfl
          apply LinAll.cons0
          · intro g L a x hLi haft hS hK; have t19 := (hK.old 19 (by kernel_rfl)).trans o19; have tg := hK.new 31 8 _ 176 _ rfl rfl rfl (by kernel_rfl) (waits haft 31 (by kernel_rfl)); (try dsimp only at t19); refine go_in (wanted_at rfl rfl rfl tg rfl) ?_; intro K hk; clear haft hK tg hLi; go_simp; exact hS.go hk rfl
          apply LinAll.cons0
          · intro g L a x hLi haft hS hK; have t15 := (hK.old 15 (by kernel_rfl)).trans o15; have tg := hK.new 31 9 _ 176 _ rfl rfl rfl (by kernel_rfl) (waits haft 31 (by kernel_rfl)); (try dsimp only at t15); refine go_in (wanted_at rfl rfl rfl tg rfl) ?_; intro K hk; obtain ⟨c0, c1, c2⟩ := (hS.own _ (.head _)).2.get3; clear haft hK tg hLi; go_simp; exact hS.go hk rfl
          apply LinAll.cons0
          · intro g L a x hLi haft hS hK; have t16 := (hK.old 16 (by kernel_rfl)).trans o16; have tg := hK.new 31 10 _ 176 _ rfl rfl rfl (by kernel_rfl) (waits haft 31 (by kernel_rfl)); (try dsimp only at t16); refine go_in (wanted_at rfl rfl rfl tg rfl) ?_; intro K hk; obtain ⟨c0, c1, c2⟩ := (hS.own _ (.tail _ (.head _))).2.get3; clear haft hK tg hLi; go_simp; exact hS.go hk rfl
          apply LinAll.cons0
          · intro g L a x hLi haft hS hK; have t185 := hK.new 40 2 _ 185 _ rfl rfl rfl (by kernel_rfl) (waits haft 40 (by kernel_rfl)); have t186 := hK.new 41 1 _ 186 _ rfl rfl rfl (by kernel_rfl) (waits haft 41 (by kernel_rfl)); have t187 := hK.new 42 0 _ 187 _ rfl rfl rfl (by kernel_rfl) (waits haft 42 (by kernel_rfl)); have tg := hK.new 31 11 _ 176 _ rfl rfl rfl (by kernel_rfl) (waits haft 31 (by kernel_rfl)); (try dsimp only at t185 t186 t187); refine go_in (wanted_at rfl rfl rfl tg rfl) ?_; intro K hk; clear haft hK tg hLi; go_simp; refine (do_low (k := 6) (op := 18) rfl (by decide) (Wd.mk' h1 h2 (by first | assumption | exact lowop_lt (by assumption) (by assumption))) (Wd.mk' h1 h2 (by first | assumption | exact lowop_lt (by assumption) (by assumption))) _).mono ?_; rintro e y ⟨rfl, hb⟩; exact hS.on hk hb rfl
          apply LinAll.cons0
          · intro g L a x hLi haft hS hK; have t184 := hK.new 39 4 _ 184 _ rfl rfl rfl (by kernel_rfl) (waits haft 39 (by kernel_rfl)); have t188 := hK.new 43 0 _ 188 _ rfl rfl rfl (by kernel_rfl) (waits haft 43 (by kernel_rfl)); have tg := hK.new 31 12 _ 176 _ rfl rfl rfl (by kernel_rfl) (waits haft 31 (by kernel_rfl)); (try dsimp only at t184 t188); refine go_in (wanted_at rfl rfl rfl tg rfl) ?_; intro K hk; clear haft hK tg hLi; go_simp; exact hS.go hk rfl
          apply LinAll.cons0
          · intro g L a x hLi haft hS hK; have t176 := hK.new 31 13 _ 176 _ rfl rfl rfl (by kernel_rfl) (waits haft 31 (by kernel_rfl)); have t189 := hK.new 44 0 _ 189 _ rfl rfl rfl (by kernel_rfl) (waits haft 44 (by kernel_rfl)); (try dsimp only at t176 t189); refine go_in (wanted_all rfl) ?_; intro K hk; clear haft hK hLi; go_simp; exact hS.go hk rfl
          apply LinAll.cons0
          · intro g L a x hLi haft hS hK; have t190 := hK.new 45 0 _ 190 _ rfl rfl rfl (by kernel_rfl) (waits haft 45 (by kernel_rfl)); (try dsimp only at t190); refine go_in (wanted_all rfl) ?_; intro K hk; clear haft hK hLi; go_simp; exact hS.go hk rfl
          refine LinAll.nil fun g x hS => ?_
          subst ha0
          simp only [Act.put, List.setIfInBounds_toArray, List.set_cons_zero, List.set_cons_succ]
          clear o15 o16 o19 o21 o22 o23 o24
          have KL := And.intro (hS.own _ (.head _)).2.get3 (And.intro (hS.own _ (.tail _ (.head _))).2.get3 (And.intro (hS.own _ (.tail _ (.tail _ (.head _)))).2.get3 (And.intro (hS.own _ (.tail _ (.tail _ (.tail _ (.head _))))).2.get3 (And.intro (hS.own _ (.tail _ (.tail _ (.tail _ (.tail _ (.head _)))))).2.get3 (hS.own _ (.tail _ (.tail _ (.tail _ (.tail _ (.tail _ (.head _))))))).2.get3))))
          have hBq := hS.below
          have hBs := hBq.size
          clear hS
          go_wp2_with fail
          go_ret
          exact ⟨rfl, by go_grown⟩
end Go.Proofs.Ytcfbabgffhfkdaa
