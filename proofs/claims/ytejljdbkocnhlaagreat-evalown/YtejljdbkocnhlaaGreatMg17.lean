import Derived.Test.YtejljdbkocnhlaaGreatX11
namespace Go.Proofs.YtejljdbkocnhlaaGreat
set_option maxHeartbeats 12800000
set_option maxRecDepth 100000
open Go.RowKit
set_option linter.unusedSimpArgs false
set_option linter.unusedVariables false
theorem ari9 : ari 9 = 3 := by decide
theorem ari38 : ari 38 = 2 := by decide
theorem rs_8a {op p q : Int} {w : World} {g o c : Nat} {l : List Int} (h : Li w g o l) (hl : l.length ≤ 1000) (hk : (l.length : Int) = ari 8) (h1 : 1 ≤ ari 8) (hall : ∀ j, j < l.length → srt (l.getD j 0) = true) {x0 : Int} (hx0 : l.getD 0 0 = x0)  (hp : p = 0) (hq : q = 0) (ha : alk l = false) :
  Rt 40 #[.int .i64 8, .int .i64 p, .int .i64 q, .slice (some ⟨g, o, none⟩) l.length c] w (.tuple #[.int .i64 0, .int .i64 30]) := by
 have HC : Hid _ := h
 have HALL : Hid _ := hall
 have hbx : (0 : Int) < (l.length : Int) := by omega
 have hbn : 0 < l.length := by omega
 have c0 : w.cell? ⟨g, o, none⟩ = some (.int .i64 x0) := by rw [← hx0]; exact h 0 hbn
 have zhp : (p == 0) = true := by simp [hp]
 have yhp : (p != 0) = false := by simp [hp]
 have Hhp : Hid _ := hp
 clear hp
 have zhq : (q == 0) = true := by simp [hq]
 have yhq : (q != 0) = false := by simp [hq]
 have Hhq : Hid _ := hq
 clear hq
 have HL : Hid (∀ wx, wx = w → Rt 89 #[.slice (some ⟨g, o, none⟩) l.length c] wx (.bool false)) := fun wx hw => by rw [hw]; have := refalike_any (c := c) h hl hbn; rw [ha] at this; exact this
 clear ha
 obtain ⟨n, hn⟩ : ∃ n, n = l.length := ⟨_, rfl⟩
 have HA : Hid (∀ wx, Calls Tryz.prog 32 #[.int .i64 8] wx fun e w' => e = .returned (.int .i64 (n : Int)) ∧ w' = wx) := fun wx => by rw [hn, hk]; exact refarity_any _ wx
 have HN : Hid _ := hn
 have z3 : ¬ (n : Int) < 1 := by omega
 rw [← hn] at hbx hbn hl HL ⊢
 have zn : ((n : Int) == (n : Int)) = true := by simp
 have yn : ((n : Int) != (n : Int)) = false := by simp
 clear h hall hk h1 hn hx0
 go_enter Tryz.func40, Tryz.ntmps40
 go_wp2_with fail
 refine (HA.out _).mono ?_
 rintro e wz ⟨rfl, hq⟩
 rw [hq]
 clear hq wz
 go_wp2_with fail
 go_loop [11] (fun i => ∃ k : Nat, k ≤ n ∧ i = .int .i64 (k : Int)) (fun i => n - (intOf i).toNat)
 case atStart => exact ⟨0, Nat.zero_le _, rfl⟩
 case round =>
  obtain ⟨k, hk, rfl⟩ := hrel
  by_cases hlt : k < n
  ·obtain ⟨s, hs⟩ : ∃ s, s = l.getD k 0 := ⟨_, rfl⟩
   have hck : w.cell? ⟨g, o + k, none⟩ = some (.int .i64 s) := by rw [hs]; exact HC.out k (by rw [← HN.out]; exact hlt)
   have HI : Hid (∀ wx, Calls Tryz.prog 46 #[.int .i64 s] wx fun e w' => e = .returned (.bool true) ∧ w' = wx) := fun wx => by have := refIs_any s wx; rw [hs, HALL.out k (by rw [← HN.out]; exact hlt)] at this; rw [hs]; exact this
   clear hs
   go_wp2_with fail
   refine (HI.out _).mono ?_
   rintro e wz ⟨rfl, hq⟩
   rw [hq]
   clear hq wz
   go_wp2_with fail
   go_round
   case rel => exact ⟨k + 1, by omega, by go_num⟩
   case measure => simp [intOf]; omega
  ·obtain rfl : k = n := by omega
   go_wp2_with fail
   refine (HL.out _ rfl).mono ?_
   rintro e w2 ⟨rfl, hb⟩
   have d0 : w2.cell? ⟨g, o, none⟩ = some (.int .i64 x0) := by rw [hb.cell (p := ⟨g, o, none⟩) (World.block_lt_of_cell? _ _ c0)]; exact c0
   go_wp2_with fail
   refine bodyPost_ret (v := .tuple #[.int .i64 0, .int .i64 30]) (by simp [results, Tryz.results40, go_sem]) rfl ?_
   exact ⟨rfl, hb⟩
theorem rs_8b {op p q : Int} {w : World} {g o c : Nat} {l : List Int} (h : Li w g o l) (hl : l.length ≤ 1000) (hk : (l.length : Int) = ari 8) (h1 : 1 ≤ ari 8) (hall : ∀ j, j < l.length → srt (l.getD j 0) = true) {x0 : Int} (hx0 : l.getD 0 0 = x0)  (hp : p = 0) (hq : q = 0) (ha : alk l = true) :
  Rt 40 #[.int .i64 8, .int .i64 p, .int .i64 q, .slice (some ⟨g, o, none⟩) l.length c] w (.tuple #[.int .i64 0, .int .i64 0]) := by
 have HC : Hid _ := h
 have HALL : Hid _ := hall
 have hbx : (0 : Int) < (l.length : Int) := by omega
 have hbn : 0 < l.length := by omega
 have c0 : w.cell? ⟨g, o, none⟩ = some (.int .i64 x0) := by rw [← hx0]; exact h 0 hbn
 have zhp : (p == 0) = true := by simp [hp]
 have yhp : (p != 0) = false := by simp [hp]
 have Hhp : Hid _ := hp
 clear hp
 have zhq : (q == 0) = true := by simp [hq]
 have yhq : (q != 0) = false := by simp [hq]
 have Hhq : Hid _ := hq
 clear hq
 have HL : Hid (∀ wx, wx = w → Rt 89 #[.slice (some ⟨g, o, none⟩) l.length c] wx (.bool true)) := fun wx hw => by rw [hw]; have := refalike_any (c := c) h hl hbn; rw [ha] at this; exact this
 clear ha
 obtain ⟨n, hn⟩ : ∃ n, n = l.length := ⟨_, rfl⟩
 have HA : Hid (∀ wx, Calls Tryz.prog 32 #[.int .i64 8] wx fun e w' => e = .returned (.int .i64 (n : Int)) ∧ w' = wx) := fun wx => by rw [hn, hk]; exact refarity_any _ wx
 have HN : Hid _ := hn
 have z3 : ¬ (n : Int) < 1 := by omega
 rw [← hn] at hbx hbn hl HL ⊢
 have zn : ((n : Int) == (n : Int)) = true := by simp
 have yn : ((n : Int) != (n : Int)) = false := by simp
 clear h hall hk h1 hn hx0
 go_enter Tryz.func40, Tryz.ntmps40
 go_wp2_with fail
 refine (HA.out _).mono ?_
 rintro e wz ⟨rfl, hq⟩
 rw [hq]
 clear hq wz
 go_wp2_with fail
 go_loop [11] (fun i => ∃ k : Nat, k ≤ n ∧ i = .int .i64 (k : Int)) (fun i => n - (intOf i).toNat)
 case atStart => exact ⟨0, Nat.zero_le _, rfl⟩
 case round =>
  obtain ⟨k, hk, rfl⟩ := hrel
  by_cases hlt : k < n
  ·obtain ⟨s, hs⟩ : ∃ s, s = l.getD k 0 := ⟨_, rfl⟩
   have hck : w.cell? ⟨g, o + k, none⟩ = some (.int .i64 s) := by rw [hs]; exact HC.out k (by rw [← HN.out]; exact hlt)
   have HI : Hid (∀ wx, Calls Tryz.prog 46 #[.int .i64 s] wx fun e w' => e = .returned (.bool true) ∧ w' = wx) := fun wx => by have := refIs_any s wx; rw [hs, HALL.out k (by rw [← HN.out]; exact hlt)] at this; rw [hs]; exact this
   clear hs
   go_wp2_with fail
   refine (HI.out _).mono ?_
   rintro e wz ⟨rfl, hq⟩
   rw [hq]
   clear hq wz
   go_wp2_with fail
   go_round
   case rel => exact ⟨k + 1, by omega, by go_num⟩
   case measure => simp [intOf]; omega
  ·obtain rfl : k = n := by omega
   go_wp2_with fail
   refine (HL.out _ rfl).mono ?_
   rintro e w2 ⟨rfl, hb⟩
   have d0 : w2.cell? ⟨g, o, none⟩ = some (.int .i64 x0) := by rw [hb.cell (p := ⟨g, o, none⟩) (World.block_lt_of_cell? _ _ c0)]; exact c0
   go_wp2_with fail
   refine bodyPost_ret (v := .tuple #[.int .i64 0, .int .i64 0]) (by simp [results, Tryz.results40, go_sem]) rfl ?_
   exact ⟨rfl, hb⟩
theorem rs_9a {op p q : Int} {w : World} {g o c : Nat} {l : List Int} (h : Li w g o l) (hl : l.length ≤ 1000) (hk : (l.length : Int) = ari 9) (h1 : 1 ≤ ari 9) (hall : ∀ j, j < l.length → srt (l.getD j 0) = true) {x0 : Int} (hx0 : l.getD 0 0 = x0) {x1 x2 : Int} (hx1 : l.getD 1 0 = x1) (hx2 : l.getD 2 0 = x2) (hp : p = 0) (hq : q = 0) (h0 : ¬ x0 = 0) :
  Rt 40 #[.int .i64 9, .int .i64 p, .int .i64 q, .slice (some ⟨g, o, none⟩) l.length c] w (.tuple #[.int .i64 0, .int .i64 30]) := by
 have HC : Hid _ := h
 have HALL : Hid _ := hall
 have hbx : (0 : Int) < (l.length : Int) := by omega
 have hbn : 0 < l.length := by omega
 have c0 : w.cell? ⟨g, o, none⟩ = some (.int .i64 x0) := by rw [← hx0]; exact h 0 hbn
 have zhp : (p == 0) = true := by simp [hp]
 have yhp : (p != 0) = false := by simp [hp]
 have Hhp : Hid _ := hp
 clear hp
 have zhq : (q == 0) = true := by simp [hq]
 have yhq : (q != 0) = false := by simp [hq]
 have Hhq : Hid _ := hq
 clear hq
 have zh0 : (x0 == 0) = false := by simp [h0]
 have yh0 : (x0 != 0) = true := by simp [h0]
 have Hh0 : Hid _ := h0
 clear h0
 have hb1 : (1 : Int) < (l.length : Int) := by rw [hk, ari9]; decide
 have hb2 : (2 : Int) < (l.length : Int) := by rw [hk, ari9]; decide
 have hm1 : 1 < l.length := by omega
 have hm2 : 2 < l.length := by omega
 have c1 : w.cell? ⟨g, o + 1, none⟩ = some (.int .i64 x1) := by rw [← hx1]; exact h 1 hm1
 have c2 : w.cell? ⟨g, o + 2, none⟩ = some (.int .i64 x2) := by rw [← hx2]; exact h 2 hm2
 clear hx1 hx2
 obtain ⟨n, hn⟩ : ∃ n, n = l.length := ⟨_, rfl⟩
 have HA : Hid (∀ wx, Calls Tryz.prog 32 #[.int .i64 9] wx fun e w' => e = .returned (.int .i64 (n : Int)) ∧ w' = wx) := fun wx => by rw [hn, hk]; exact refarity_any _ wx
 have HN : Hid _ := hn
 have z3 : ¬ (n : Int) < 1 := by omega
 rw [← hn] at hbx hbn hl hb1 hb2 hm1 hm2 ⊢
 have zn : ((n : Int) == (n : Int)) = true := by simp
 have yn : ((n : Int) != (n : Int)) = false := by simp
 clear h hall hk h1 hn hx0
 go_enter Tryz.func40, Tryz.ntmps40
 go_wp2_with fail
 refine (HA.out _).mono ?_
 rintro e wz ⟨rfl, hq⟩
 rw [hq]
 clear hq wz
 go_wp2_with fail
 go_loop [11] (fun i => ∃ k : Nat, k ≤ n ∧ i = .int .i64 (k : Int)) (fun i => n - (intOf i).toNat)
 case atStart => exact ⟨0, Nat.zero_le _, rfl⟩
 case round =>
  obtain ⟨k, hk, rfl⟩ := hrel
  by_cases hlt : k < n
  ·obtain ⟨s, hs⟩ : ∃ s, s = l.getD k 0 := ⟨_, rfl⟩
   have hck : w.cell? ⟨g, o + k, none⟩ = some (.int .i64 s) := by rw [hs]; exact HC.out k (by rw [← HN.out]; exact hlt)
   have HI : Hid (∀ wx, Calls Tryz.prog 46 #[.int .i64 s] wx fun e w' => e = .returned (.bool true) ∧ w' = wx) := fun wx => by have := refIs_any s wx; rw [hs, HALL.out k (by rw [← HN.out]; exact hlt)] at this; rw [hs]; exact this
   clear hs
   go_wp2_with fail
   refine (HI.out _).mono ?_
   rintro e wz ⟨rfl, hq⟩
   rw [hq]
   clear hq wz
   go_wp2_with fail
   go_round
   case rel => exact ⟨k + 1, by omega, by go_num⟩
   case measure => simp [intOf]; omega
  ·obtain rfl : k = n := by omega
   go_wp2_with fail
   go_quiet (fail)
   go_wp2_with fail
   refine bodyPost_ret (v := .tuple #[.int .i64 0, .int .i64 30]) (by simp [results, Tryz.results40, go_sem]) rfl ?_
   exact ⟨rfl, below_drewN (Below.refl _ _) _⟩
theorem rs_9b {op p q : Int} {w : World} {g o c : Nat} {l : List Int} (h : Li w g o l) (hl : l.length ≤ 1000) (hk : (l.length : Int) = ari 9) (h1 : 1 ≤ ari 9) (hall : ∀ j, j < l.length → srt (l.getD j 0) = true) {x0 : Int} (hx0 : l.getD 0 0 = x0) {x1 x2 : Int} (hx1 : l.getD 1 0 = x1) (hx2 : l.getD 2 0 = x2) (hp : p = 0) (hq : q = 0) (h0 : x0 = 0) (h12 : ¬ x1 = x2) :
  Rt 40 #[.int .i64 9, .int .i64 p, .int .i64 q, .slice (some ⟨g, o, none⟩) l.length c] w (.tuple #[.int .i64 0, .int .i64 30]) := by
 have HC : Hid _ := h
 have HALL : Hid _ := hall
 have hbx : (0 : Int) < (l.length : Int) := by omega
 have hbn : 0 < l.length := by omega
 have c0 : w.cell? ⟨g, o, none⟩ = some (.int .i64 x0) := by rw [← hx0]; exact h 0 hbn
 have zhp : (p == 0) = true := by simp [hp]
 have yhp : (p != 0) = false := by simp [hp]
 have Hhp : Hid _ := hp
 clear hp
 have zhq : (q == 0) = true := by simp [hq]
 have yhq : (q != 0) = false := by simp [hq]
 have Hhq : Hid _ := hq
 clear hq
 have zh0 : (x0 == 0) = true := by simp [h0]
 have yh0 : (x0 != 0) = false := by simp [h0]
 have Hh0 : Hid _ := h0
 clear h0
 have zh12 : (x1 == x2) = false := by simp [h12]
 have yh12 : (x1 != x2) = true := by simp [h12]
 have Hh12 : Hid _ := h12
 clear h12
 have hb1 : (1 : Int) < (l.length : Int) := by rw [hk, ari9]; decide
 have hb2 : (2 : Int) < (l.length : Int) := by rw [hk, ari9]; decide
 have hm1 : 1 < l.length := by omega
 have hm2 : 2 < l.length := by omega
 have c1 : w.cell? ⟨g, o + 1, none⟩ = some (.int .i64 x1) := by rw [← hx1]; exact h 1 hm1
 have c2 : w.cell? ⟨g, o + 2, none⟩ = some (.int .i64 x2) := by rw [← hx2]; exact h 2 hm2
 clear hx1 hx2
 obtain ⟨n, hn⟩ : ∃ n, n = l.length := ⟨_, rfl⟩
 have HA : Hid (∀ wx, Calls Tryz.prog 32 #[.int .i64 9] wx fun e w' => e = .returned (.int .i64 (n : Int)) ∧ w' = wx) := fun wx => by rw [hn, hk]; exact refarity_any _ wx
 have HN : Hid _ := hn
 have z3 : ¬ (n : Int) < 1 := by omega
 rw [← hn] at hbx hbn hl hb1 hb2 hm1 hm2 ⊢
 have zn : ((n : Int) == (n : Int)) = true := by simp
 have yn : ((n : Int) != (n : Int)) = false := by simp
 clear h hall hk h1 hn hx0
 go_enter Tryz.func40, Tryz.ntmps40
 go_wp2_with fail
 refine (HA.out _).mono ?_
 rintro e wz ⟨rfl, hq⟩
 rw [hq]
 clear hq wz
 go_wp2_with fail
 go_loop [11] (fun i => ∃ k : Nat, k ≤ n ∧ i = .int .i64 (k : Int)) (fun i => n - (intOf i).toNat)
 case atStart => exact ⟨0, Nat.zero_le _, rfl⟩
 case round =>
  obtain ⟨k, hk, rfl⟩ := hrel
  by_cases hlt : k < n
  ·obtain ⟨s, hs⟩ : ∃ s, s = l.getD k 0 := ⟨_, rfl⟩
   have hck : w.cell? ⟨g, o + k, none⟩ = some (.int .i64 s) := by rw [hs]; exact HC.out k (by rw [← HN.out]; exact hlt)
   have HI : Hid (∀ wx, Calls Tryz.prog 46 #[.int .i64 s] wx fun e w' => e = .returned (.bool true) ∧ w' = wx) := fun wx => by have := refIs_any s wx; rw [hs, HALL.out k (by rw [← HN.out]; exact hlt)] at this; rw [hs]; exact this
   clear hs
   go_wp2_with fail
   refine (HI.out _).mono ?_
   rintro e wz ⟨rfl, hq⟩
   rw [hq]
   clear hq wz
   go_wp2_with fail
   go_round
   case rel => exact ⟨k + 1, by omega, by go_num⟩
   case measure => simp [intOf]; omega
  ·obtain rfl : k = n := by omega
   go_wp2_with fail
   go_quiet (fail)
   go_wp2_with fail
   refine bodyPost_ret (v := .tuple #[.int .i64 0, .int .i64 30]) (by simp [results, Tryz.results40, go_sem]) rfl ?_
   exact ⟨rfl, below_drewN (Below.refl _ _) _⟩
theorem rs_9c {op p q : Int} {w : World} {g o c : Nat} {l : List Int} (h : Li w g o l) (hl : l.length ≤ 1000) (hk : (l.length : Int) = ari 9) (h1 : 1 ≤ ari 9) (hall : ∀ j, j < l.length → srt (l.getD j 0) = true) {x0 : Int} (hx0 : l.getD 0 0 = x0) {x1 x2 : Int} (hx1 : l.getD 1 0 = x1) (hx2 : l.getD 2 0 = x2) (hp : p = 0) (hq : q = 0) (h0 : x0 = 0) (h12 : x1 = x2) :
  Rt 40 #[.int .i64 9, .int .i64 p, .int .i64 q, .slice (some ⟨g, o, none⟩) l.length c] w (.tuple #[.int .i64 x1, .int .i64 0]) := by
 have HC : Hid _ := h
 have HALL : Hid _ := hall
 have hbx : (0 : Int) < (l.length : Int) := by omega
 have hbn : 0 < l.length := by omega
 have c0 : w.cell? ⟨g, o, none⟩ = some (.int .i64 x0) := by rw [← hx0]; exact h 0 hbn
 have zhp : (p == 0) = true := by simp [hp]
 have yhp : (p != 0) = false := by simp [hp]
 have Hhp : Hid _ := hp
 clear hp
 have zhq : (q == 0) = true := by simp [hq]
 have yhq : (q != 0) = false := by simp [hq]
 have Hhq : Hid _ := hq
 clear hq
 have zh0 : (x0 == 0) = true := by simp [h0]
 have yh0 : (x0 != 0) = false := by simp [h0]
 have Hh0 : Hid _ := h0
 clear h0
 have zh12 : (x1 == x2) = true := by simp [h12]
 have yh12 : (x1 != x2) = false := by simp [h12]
 have Hh12 : Hid _ := h12
 clear h12
 have hb1 : (1 : Int) < (l.length : Int) := by rw [hk, ari9]; decide
 have hb2 : (2 : Int) < (l.length : Int) := by rw [hk, ari9]; decide
 have hm1 : 1 < l.length := by omega
 have hm2 : 2 < l.length := by omega
 have c1 : w.cell? ⟨g, o + 1, none⟩ = some (.int .i64 x1) := by rw [← hx1]; exact h 1 hm1
 have c2 : w.cell? ⟨g, o + 2, none⟩ = some (.int .i64 x2) := by rw [← hx2]; exact h 2 hm2
 clear hx1 hx2
 obtain ⟨n, hn⟩ : ∃ n, n = l.length := ⟨_, rfl⟩
 have HA : Hid (∀ wx, Calls Tryz.prog 32 #[.int .i64 9] wx fun e w' => e = .returned (.int .i64 (n : Int)) ∧ w' = wx) := fun wx => by rw [hn, hk]; exact refarity_any _ wx
 have HN : Hid _ := hn
 have z3 : ¬ (n : Int) < 1 := by omega
 rw [← hn] at hbx hbn hl hb1 hb2 hm1 hm2 ⊢
 have zn : ((n : Int) == (n : Int)) = true := by simp
 have yn : ((n : Int) != (n : Int)) = false := by simp
 clear h hall hk h1 hn hx0
 go_enter Tryz.func40, Tryz.ntmps40
 go_wp2_with fail
 refine (HA.out _).mono ?_
 rintro e wz ⟨rfl, hq⟩
 rw [hq]
 clear hq wz
 go_wp2_with fail
 go_loop [11] (fun i => ∃ k : Nat, k ≤ n ∧ i = .int .i64 (k : Int)) (fun i => n - (intOf i).toNat)
 case atStart => exact ⟨0, Nat.zero_le _, rfl⟩
 case round =>
  obtain ⟨k, hk, rfl⟩ := hrel
  by_cases hlt : k < n
  ·obtain ⟨s, hs⟩ : ∃ s, s = l.getD k 0 := ⟨_, rfl⟩
   have hck : w.cell? ⟨g, o + k, none⟩ = some (.int .i64 s) := by rw [hs]; exact HC.out k (by rw [← HN.out]; exact hlt)
   have HI : Hid (∀ wx, Calls Tryz.prog 46 #[.int .i64 s] wx fun e w' => e = .returned (.bool true) ∧ w' = wx) := fun wx => by have := refIs_any s wx; rw [hs, HALL.out k (by rw [← HN.out]; exact hlt)] at this; rw [hs]; exact this
   clear hs
   go_wp2_with fail
   refine (HI.out _).mono ?_
   rintro e wz ⟨rfl, hq⟩
   rw [hq]
   clear hq wz
   go_wp2_with fail
   go_round
   case rel => exact ⟨k + 1, by omega, by go_num⟩
   case measure => simp [intOf]; omega
  ·obtain rfl : k = n := by omega
   go_wp2_with fail
   go_quiet (fail)
   go_wp2_with fail
   refine bodyPost_ret (v := .tuple #[.int .i64 x1, .int .i64 0]) (by simp [results, Tryz.results40, go_sem]) rfl ?_
   exact ⟨rfl, below_drewN (Below.refl _ _) _⟩
theorem rs_38a {op p q : Int} {w : World} {g o c : Nat} {l : List Int} (h : Li w g o l) (hl : l.length ≤ 1000) (hk : (l.length : Int) = ari 38) (h1 : 1 ≤ ari 38) (hall : ∀ j, j < l.length → srt (l.getD j 0) = true) {x0 : Int} (hx0 : l.getD 0 0 = x0) {x1 : Int} (hx1 : l.getD 1 0 = x1) (hp : p = 0) (hq : q = 0) (h0 : x0 = 0) :
  Rt 40 #[.int .i64 38, .int .i64 p, .int .i64 q, .slice (some ⟨g, o, none⟩) l.length c] w (.tuple #[.int .i64 0, .int .i64 30]) := by
 have HC : Hid _ := h
 have HALL : Hid _ := hall
 have hbx : (0 : Int) < (l.length : Int) := by omega
 have hbn : 0 < l.length := by omega
 have c0 : w.cell? ⟨g, o, none⟩ = some (.int .i64 x0) := by rw [← hx0]; exact h 0 hbn
 have zhp : (p == 0) = true := by simp [hp]
 have yhp : (p != 0) = false := by simp [hp]
 have Hhp : Hid _ := hp
 clear hp
 have zhq : (q == 0) = true := by simp [hq]
 have yhq : (q != 0) = false := by simp [hq]
 have Hhq : Hid _ := hq
 clear hq
 have zh0 : (x0 == 0) = true := by simp [h0]
 have yh0 : (x0 != 0) = false := by simp [h0]
 have Hh0 : Hid _ := h0
 clear h0
 have hb1 : (1 : Int) < (l.length : Int) := by rw [hk, ari38]; decide
 have hm1 : 1 < l.length := by omega
 have c1 : w.cell? ⟨g, o + 1, none⟩ = some (.int .i64 x1) := by rw [← hx1]; exact h 1 hm1
 clear hx1
 obtain ⟨n, hn⟩ : ∃ n, n = l.length := ⟨_, rfl⟩
 have HA : Hid (∀ wx, Calls Tryz.prog 32 #[.int .i64 38] wx fun e w' => e = .returned (.int .i64 (n : Int)) ∧ w' = wx) := fun wx => by rw [hn, hk]; exact refarity_any _ wx
 have HN : Hid _ := hn
 have z3 : ¬ (n : Int) < 1 := by omega
 rw [← hn] at hbx hbn hl hb1 hm1 ⊢
 have zn : ((n : Int) == (n : Int)) = true := by simp
 have yn : ((n : Int) != (n : Int)) = false := by simp
 clear h hall hk h1 hn hx0
 go_enter Tryz.func40, Tryz.ntmps40
 go_wp2_with fail
 refine (HA.out _).mono ?_
 rintro e wz ⟨rfl, hq⟩
 rw [hq]
 clear hq wz
 go_wp2_with fail
 go_loop [11] (fun i => ∃ k : Nat, k ≤ n ∧ i = .int .i64 (k : Int)) (fun i => n - (intOf i).toNat)
 case atStart => exact ⟨0, Nat.zero_le _, rfl⟩
 case round =>
  obtain ⟨k, hk, rfl⟩ := hrel
  by_cases hlt : k < n
  ·obtain ⟨s, hs⟩ : ∃ s, s = l.getD k 0 := ⟨_, rfl⟩
   have hck : w.cell? ⟨g, o + k, none⟩ = some (.int .i64 s) := by rw [hs]; exact HC.out k (by rw [← HN.out]; exact hlt)
   have HI : Hid (∀ wx, Calls Tryz.prog 46 #[.int .i64 s] wx fun e w' => e = .returned (.bool true) ∧ w' = wx) := fun wx => by have := refIs_any s wx; rw [hs, HALL.out k (by rw [← HN.out]; exact hlt)] at this; rw [hs]; exact this
   clear hs
   go_wp2_with fail
   refine (HI.out _).mono ?_
   rintro e wz ⟨rfl, hq⟩
   rw [hq]
   clear hq wz
   go_wp2_with fail
   go_round
   case rel => exact ⟨k + 1, by omega, by go_num⟩
   case measure => simp [intOf]; omega
  ·obtain rfl : k = n := by omega
   go_wp2_with fail
   refine bodyPost_ret (v := .tuple #[.int .i64 0, .int .i64 30]) (by simp [results, Tryz.results40, go_sem]) rfl ?_
   exact ⟨rfl, Below.refl _ _⟩
theorem rs_38b {op p q : Int} {w : World} {g o c : Nat} {l : List Int} (h : Li w g o l) (hl : l.length ≤ 1000) (hk : (l.length : Int) = ari 38) (h1 : 1 ≤ ari 38) (hall : ∀ j, j < l.length → srt (l.getD j 0) = true) {x0 : Int} (hx0 : l.getD 0 0 = x0) {x1 : Int} (hx1 : l.getD 1 0 = x1) (hp : p = 0) (hq : q = 0) (h0 : ¬ x0 = 0) (h3 : x1 = 0) :
  Rt 40 #[.int .i64 38, .int .i64 p, .int .i64 q, .slice (some ⟨g, o, none⟩) l.length c] w (.tuple #[.int .i64 0, .int .i64 30]) := by
 have HC : Hid _ := h
 have HALL : Hid _ := hall
 have hbx : (0 : Int) < (l.length : Int) := by omega
 have hbn : 0 < l.length := by omega
 have c0 : w.cell? ⟨g, o, none⟩ = some (.int .i64 x0) := by rw [← hx0]; exact h 0 hbn
 have zhp : (p == 0) = true := by simp [hp]
 have yhp : (p != 0) = false := by simp [hp]
 have Hhp : Hid _ := hp
 clear hp
 have zhq : (q == 0) = true := by simp [hq]
 have yhq : (q != 0) = false := by simp [hq]
 have Hhq : Hid _ := hq
 clear hq
 have zh0 : (x0 == 0) = false := by simp [h0]
 have yh0 : (x0 != 0) = true := by simp [h0]
 have Hh0 : Hid _ := h0
 clear h0
 have zh3 : (x1 == 0) = true := by simp [h3]
 have yh3 : (x1 != 0) = false := by simp [h3]
 have Hh3 : Hid _ := h3
 clear h3
 have hb1 : (1 : Int) < (l.length : Int) := by rw [hk, ari38]; decide
 have hm1 : 1 < l.length := by omega
 have c1 : w.cell? ⟨g, o + 1, none⟩ = some (.int .i64 x1) := by rw [← hx1]; exact h 1 hm1
 clear hx1
 obtain ⟨n, hn⟩ : ∃ n, n = l.length := ⟨_, rfl⟩
 have HA : Hid (∀ wx, Calls Tryz.prog 32 #[.int .i64 38] wx fun e w' => e = .returned (.int .i64 (n : Int)) ∧ w' = wx) := fun wx => by rw [hn, hk]; exact refarity_any _ wx
 have HN : Hid _ := hn
 have z3 : ¬ (n : Int) < 1 := by omega
 rw [← hn] at hbx hbn hl hb1 hm1 ⊢
 have zn : ((n : Int) == (n : Int)) = true := by simp
 have yn : ((n : Int) != (n : Int)) = false := by simp
 clear h hall hk h1 hn hx0
 go_enter Tryz.func40, Tryz.ntmps40
 go_wp2_with fail
 refine (HA.out _).mono ?_
 rintro e wz ⟨rfl, hq⟩
 rw [hq]
 clear hq wz
 go_wp2_with fail
 go_loop [11] (fun i => ∃ k : Nat, k ≤ n ∧ i = .int .i64 (k : Int)) (fun i => n - (intOf i).toNat)
 case atStart => exact ⟨0, Nat.zero_le _, rfl⟩
 case round =>
  obtain ⟨k, hk, rfl⟩ := hrel
  by_cases hlt : k < n
  ·obtain ⟨s, hs⟩ : ∃ s, s = l.getD k 0 := ⟨_, rfl⟩
   have hck : w.cell? ⟨g, o + k, none⟩ = some (.int .i64 s) := by rw [hs]; exact HC.out k (by rw [← HN.out]; exact hlt)
   have HI : Hid (∀ wx, Calls Tryz.prog 46 #[.int .i64 s] wx fun e w' => e = .returned (.bool true) ∧ w' = wx) := fun wx => by have := refIs_any s wx; rw [hs, HALL.out k (by rw [← HN.out]; exact hlt)] at this; rw [hs]; exact this
   clear hs
   go_wp2_with fail
   refine (HI.out _).mono ?_
   rintro e wz ⟨rfl, hq⟩
   rw [hq]
   clear hq wz
   go_wp2_with fail
   go_round
   case rel => exact ⟨k + 1, by omega, by go_num⟩
   case measure => simp [intOf]; omega
  ·obtain rfl : k = n := by omega
   go_wp2_with fail
   refine bodyPost_ret (v := .tuple #[.int .i64 0, .int .i64 30]) (by simp [results, Tryz.results40, go_sem]) rfl ?_
   exact ⟨rfl, Below.refl _ _⟩
theorem rs_38c {op p q : Int} {w : World} {g o c : Nat} {l : List Int} (h : Li w g o l) (hl : l.length ≤ 1000) (hk : (l.length : Int) = ari 38) (h1 : 1 ≤ ari 38) (hall : ∀ j, j < l.length → srt (l.getD j 0) = true) {x0 : Int} (hx0 : l.getD 0 0 = x0) {x1 : Int} (hx1 : l.getD 1 0 = x1) (hp : p = 0) (hq : q = 0) (h0 : ¬ x0 = 0) (h3 : ¬ x1 = 0) :
  Rt 40 #[.int .i64 38, .int .i64 p, .int .i64 q, .slice (some ⟨g, o, none⟩) l.length c] w (.tuple #[.int .i64 (wdF (x0 + x1)).1, .int .i64 (wdF (x0 + x1)).2]) := by
 have HC : Hid _ := h
 have HALL : Hid _ := hall
 have hbx : (0 : Int) < (l.length : Int) := by omega
 have hbn : 0 < l.length := by omega
 have c0 : w.cell? ⟨g, o, none⟩ = some (.int .i64 x0) := by rw [← hx0]; exact h 0 hbn
 have zhp : (p == 0) = true := by simp [hp]
 have yhp : (p != 0) = false := by simp [hp]
 have Hhp : Hid _ := hp
 clear hp
 have zhq : (q == 0) = true := by simp [hq]
 have yhq : (q != 0) = false := by simp [hq]
 have Hhq : Hid _ := hq
 clear hq
 have zh0 : (x0 == 0) = false := by simp [h0]
 have yh0 : (x0 != 0) = true := by simp [h0]
 have Hh0 : Hid _ := h0
 clear h0
 have zh3 : (x1 == 0) = false := by simp [h3]
 have yh3 : (x1 != 0) = true := by simp [h3]
 have Hh3 : Hid _ := h3
 clear h3
 have hb1 : (1 : Int) < (l.length : Int) := by rw [hk, ari38]; decide
 have hm1 : 1 < l.length := by omega
 have c1 : w.cell? ⟨g, o + 1, none⟩ = some (.int .i64 x1) := by rw [← hx1]; exact h 1 hm1
 have ss0 := hall 0 hbn
 rw [hx0] at ss0
 have s0 : 0 ≤ x0 ∧ x0 ≤ 128 := by simpa [srt] using ss0
 have ss1 := hall 1 hm1
 rw [hx1] at ss1
 have s1 : 0 ≤ x1 ∧ x1 ≤ 128 := by simpa [srt] using ss1
 have e1 : IntKind.i64.wrap (x0 + x1) = x0 + x1 := by rw [IntKind.wrap_i64]; omega
 have e2 : wrap64 (x0 + x1) = x0 + x1 := by rw [← wrap_eq64]; exact e1
 obtain ⟨E, hE⟩ : ∃ E, E = wdF (x0 + x1) := ⟨_, rfl⟩
 have HW : Hid (∀ wx, Calls Tryz.prog 90 #[.int .i64 (x0 + x1)] wx fun e w' => e = .returned (.tuple #[.int .i64 E.1, .int .i64 E.2]) ∧ w' = wx) := fun wx => by rw [hE]; exact wide_any _ wx
 rw [← hE]
 clear hE ss0 ss1 s0 s1 hx1
 obtain ⟨n, hn⟩ : ∃ n, n = l.length := ⟨_, rfl⟩
 have HA : Hid (∀ wx, Calls Tryz.prog 32 #[.int .i64 38] wx fun e w' => e = .returned (.int .i64 (n : Int)) ∧ w' = wx) := fun wx => by rw [hn, hk]; exact refarity_any _ wx
 have HN : Hid _ := hn
 have z3 : ¬ (n : Int) < 1 := by omega
 rw [← hn] at hbx hbn hl hb1 hm1 ⊢
 have zn : ((n : Int) == (n : Int)) = true := by simp
 have yn : ((n : Int) != (n : Int)) = false := by simp
 clear h hall hk h1 hn hx0
 go_enter Tryz.func40, Tryz.ntmps40
 go_wp2_with fail
 refine (HA.out _).mono ?_
 rintro e wz ⟨rfl, hq⟩
 rw [hq]
 clear hq wz
 go_wp2_with fail
 go_loop [11] (fun i => ∃ k : Nat, k ≤ n ∧ i = .int .i64 (k : Int)) (fun i => n - (intOf i).toNat)
 case atStart => exact ⟨0, Nat.zero_le _, rfl⟩
 case round =>
  obtain ⟨k, hk, rfl⟩ := hrel
  by_cases hlt : k < n
  ·obtain ⟨s, hs⟩ : ∃ s, s = l.getD k 0 := ⟨_, rfl⟩
   have hck : w.cell? ⟨g, o + k, none⟩ = some (.int .i64 s) := by rw [hs]; exact HC.out k (by rw [← HN.out]; exact hlt)
   have HI : Hid (∀ wx, Calls Tryz.prog 46 #[.int .i64 s] wx fun e w' => e = .returned (.bool true) ∧ w' = wx) := fun wx => by have := refIs_any s wx; rw [hs, HALL.out k (by rw [← HN.out]; exact hlt)] at this; rw [hs]; exact this
   clear hs
   go_wp2_with fail
   refine (HI.out _).mono ?_
   rintro e wz ⟨rfl, hq⟩
   rw [hq]
   clear hq wz
   go_wp2_with fail
   go_round
   case rel => exact ⟨k + 1, by omega, by go_num⟩
   case measure => simp [intOf]; omega
  ·obtain rfl : k = n := by omega
   go_wp2_with fail
   go_region_held3 (fun x => x.cell? ⟨g, o, none⟩ = some (.int .i64 x0) ∧ x.cell? ⟨g, o + 1, none⟩ = some (.int .i64 x1) ∧ Below w.heap.size w x)
    ((first | assumption | exact ⟨by simp [go_sem, c0], by simp [go_sem, c1], (Below.refl _ _).drew⟩))
    ((go_at_call 90; refine (HW.out _).mono ?_; rintro e wz ⟨rfl, hq⟩; subst hq))
   obtain ⟨-, -, hBq⟩ := ‹_ ∧ _ ∧ _›
   go_wp2_with fail
   refine bodyPost_ret (v := .tuple #[.int .i64 E.1, .int .i64 E.2]) (by simp [results, Tryz.results40, go_sem]) rfl ?_
   exact ⟨rfl, hBq⟩
theorem rs_bad {op p q : Int} {w : World} {g o c : Nat} {l : List Int} (h : Li w g o l) (hl : l.length ≤ 1000) (hk : (l.length : Int) = ari op) (h1 : 1 ≤ ari op) (hall : l.all srt = false) :
  Rt 40 #[.int .i64 op, .int .i64 p, .int .i64 q, .slice (some ⟨g, o, none⟩) l.length c] w (.tuple #[.int .i64 0, .int .i64 30]) := by
 have HC : Hid _ := h
 have HB : Hid _ := hall
 have hbx : (0 : Int) < (l.length : Int) := by omega
 have hbn : 0 < l.length := by omega
 obtain ⟨n, hn⟩ : ∃ n, n = l.length := ⟨_, rfl⟩
 have HA : Hid (∀ wx, Calls Tryz.prog 32 #[.int .i64 op] wx fun e w' => e = .returned (.int .i64 (n : Int)) ∧ w' = wx) := fun wx => by rw [hn, hk]; exact refarity_any _ wx
 have HN : Hid _ := hn
 have z3 : ¬ (n : Int) < 1 := by omega
 rw [← hn] at hbx hbn hl ⊢
 have zn : ((n : Int) == (n : Int)) = true := by simp
 have yn : ((n : Int) != (n : Int)) = false := by simp
 clear h hall hk h1 hn
 go_enter Tryz.func40, Tryz.ntmps40
 go_wp2_with fail
 refine (HA.out _).mono ?_
 rintro e wz ⟨rfl, hq⟩
 rw [hq]
 clear hq wz
 go_wp2_with fail
 go_loop [11] (fun i => ∃ k : Nat, k ≤ n ∧ i = .int .i64 (k : Int) ∧ ∀ j, j < k → srt (l.getD j 0) = true) (fun i => n - (intOf i).toNat)
 case atStart => exact ⟨0, Nat.zero_le _, rfl, fun j hj => by omega⟩
 case round =>
  obtain ⟨k, hk, rfl, hz⟩ := hrel
  have HZ : Hid _ := hz
  clear hz
  by_cases hlt : k < n
  ·obtain ⟨s, hs⟩ : ∃ s, s = l.getD k 0 := ⟨_, rfl⟩
   have hck : w.cell? ⟨g, o + k, none⟩ = some (.int .i64 s) := by rw [hs]; exact HC.out k (by rw [← HN.out]; exact hlt)
   obtain ⟨b, hb⟩ : ∃ b, b = srt s := ⟨_, rfl⟩
   have HI : Hid (∀ wx, Calls Tryz.prog 46 #[.int .i64 s] wx fun e w' => e = .returned (.bool b) ∧ w' = wx) := fun wx => by rw [hb]; exact refIs_any s wx
   have HBB : Hid (srt (l.getD k 0) = b) := by unfold Hid; rw [hb, hs]
   clear hs hb
   cases b
   ·go_wp2_with fail
    refine (HI.out _).mono ?_
    rintro e wz ⟨rfl, hq⟩
    rw [hq]
    clear hq wz
    go_wp2_with fail
    refine bodyPost_ret (v := .tuple #[.int .i64 0, .int .i64 30]) (by simp [results, Tryz.results40, go_sem]) rfl ?_
    exact ⟨rfl, Below.refl _ _⟩
   ·go_wp2_with fail
    refine (HI.out _).mono ?_
    rintro e wz ⟨rfl, hq⟩
    rw [hq]
    clear hq wz
    go_wp2_with fail
    go_round
    case rel =>
     refine ⟨k + 1, by omega, by go_num, fun j hj => ?_⟩
     by_cases e : j = k
     ·subst e; exact HBB.out
     ·exact HZ.out j (by omega)
    case measure => simp [intOf]; omega
  ·obtain rfl : k = n := by omega
   exact absurd (all_yes (f := srt) (fun j hj => HZ.out j (by rw [HN.out]; exact hj))) (by rw [HB.out]; decide)
theorem srtF_eq {op p q : Int} {l : List Int} (h0 : ¬ ari op < 1) (h1 : (l.length : Int) = ari op) : srtF op p q l = if fitB op p q l = true then wdF (ans op p q l) else (0, 30) := by
 unfold srtF wdF
 rw [if_neg h0]
 by_cases hf : fitB op p q l = true
 ·rw [if_pos ⟨h1, hf⟩, if_pos hf]
 ·rw [if_neg (fun x => hf x.2), if_neg hf]
theorem fit_all {op p q : Int} {l : List Int} (h : l.all srt = true) : fitB op p q l = (opf op l && nft op p q (l.getD 0 0)) := by unfold fitB; rw [h, Bool.true_and]
theorem nft_low {op p q s : Int} (h : op < 39) : nft op p q s = (decide (p = 0) && decide (q = 0)) := by
 unfold nft
 rw [if_neg (by omega), if_neg (by omega), if_neg (by omega)]
theorem ari_high {op : Int} (h : 39 ≤ op) (h2 : op ≤ 44) : ari op = 1 := by
 have : op = 39 ∨ op = 40 ∨ op = 41 ∨ op = 42 ∨ op = 43 ∨ op = 44 := by omega
 rcases this with rfl | rfl | rfl | rfl | rfl | rfl <;> decide
theorem wd_le {s : Int} (h : s ≤ 128) : wdF s = (s, 0) := by unfold wdF; rw [if_pos h]
theorem wd_gt {s : Int} (h : 128 < s) : wdF s = (0, 31) := by unfold wdF; rw [if_neg (by omega)]
theorem nm_srt {op p q s : Int} (h : 39 ≤ op) (h2 : op ≤ 44) (s0 : 0 ≤ s) (s1 : s ≤ 128) : nmF op p q s = srtF op p q [s] := by
 have ha := ari_high h h2
 rw [srtF_eq (by omega) (by rw [ha]; rfl), fit_all (by simp [srt, s0, s1])]
 have ho : opf op [s] = !decide (s = 0) := by
  unfold opf
  rw [if_neg (by omega), if_neg (by omega), if_neg (by omega), if_neg (by omega)]
  simp [alk]
 rw [ho]
 show nmF op p q s = if (!decide (s = 0) && nft op p q s) = true then _ else _
 unfold nmF
 by_cases hs : s = 0
 ·rw [if_pos hs]; simp [hs]
 ·rw [if_neg hs]
  cases hn : nft op p q s
  ·simp
  ·simp only [hs, decide_false, Bool.not_false, Bool.true_and, if_true, Bool.true_eq_false, if_false, reduceIte]
   have : op = 39 ∨ op = 40 ∨ op = 41 ∨ op = 42 ∨ op = 43 ∨ op = 44 := by omega
   rcases this with rfl | rfl | rfl | rfl | rfl | rfl
   ·have hn' : (p < s ∧ q ≤ p) ∧ 0 ≤ q := by simpa [nft] using hn
    rw [show ans 39 p q [s] = p - q + 1 from rfl, wd_le (s := p - q + 1) (by omega)]; simp
   ·have hn' : 0 ≤ p ∧ q = 0 := by simpa [nft] using hn
    rw [show ans 40 p q [s] = s + min p 129 from rfl]
    by_cases h3 : 128 < p
    ·rw [wd_gt (s := s + min p 129) (by omega)]; simp [h3]
    ·rw [show min p 129 = p by omega]; simp [h3]
   ·have hn' : 0 ≤ p ∧ q = 0 := by simpa [nft] using hn
    rw [show ans 41 p q [s] = s + min p 129 from rfl]
    by_cases h3 : 128 < p
    ·rw [wd_gt (s := s + min p 129) (by omega)]; simp [h3]
    ·rw [show min p 129 = p by omega]; simp [h3]
   ·rw [show ans 42 p q [s] = s from rfl, wd_le (s := s) s1]; simp
   ·rw [show ans 43 p q [s] = s from rfl, wd_le (s := s) s1]; simp
   ·have hn' : 1 ≤ p ∧ q = 0 := by simpa [nft] using hn
    rw [show ans 44 p q [s] = s * min p 129 from rfl]
    by_cases h3 : 128 < p
    ·rw [show min p 129 = 129 by omega, wd_gt (s := s * 129) (by omega)]; simp [h3]
    ·rw [show min p 129 = p by omega]; simp [h3]
theorem len1 {l : List Int} (h : l.length = 1) : ∃ a, l = [a] := by
 match l, h with
 | [a], _ => exact ⟨a, rfl⟩
theorem len2 {l : List Int} (h : l.length = 2) : ∃ a b, l = [a, b] := by
 match l, h with
 | [a, b], _ => exact ⟨a, b, rfl⟩
theorem len3 {l : List Int} (h : l.length = 3) : ∃ a b c, l = [a, b, c] := by
 match l, h with
 | [a, b, c], _ => exact ⟨a, b, c, rfl⟩
theorem refsort_any {op p q : Int} {w : World} {g o c : Nat} {l : List Int} (h : Li w g o l) (hl : l.length ≤ 1000) :
  Rt 40 #[.int .i64 op, .int .i64 p, .int .i64 q, .slice (some ⟨g, o, none⟩) l.length c] w (.tuple #[.int .i64 (srtF op p q l).1, .int .i64 (srtF op p q l).2]) := by
 by_cases h0 : ari op < 1
 ·rw [show srtF op p q l = (0, 32) by unfold srtF; rw [if_pos h0]]
  exact rs_noop hl h0 w
 by_cases h1 : (l.length : Int) = ari op
 rotate_left 1
 ·rw [show srtF op p q l = (0, 30) by unfold srtF; rw [if_neg h0, if_neg (fun x => h1 x.1)]]
  exact rs_count hl (by omega) h1 w
 have ha : 1 ≤ ari op := by omega
 have hr := ari_range ha
 rw [srtF_eq h0 h1]
 cases hall : l.all srt
 ·rw [show fitB op p q l = false by unfold fitB; rw [hall]; rfl, if_neg (by decide)]
  exact rs_bad h hl h1 ha hall
 have hal : ∀ j, j < l.length → srt (l.getD j 0) = true := fun j hj => by
  have := srt_at hall hj; simp only [srt, Bool.and_eq_true, decide_eq_true_eq]; exact this
 have hs0 := srt_at hall (show 0 < l.length by omega)
 by_cases hh : 39 ≤ op
 ·have e1 := ari_high hh hr.2
  obtain ⟨s, rfl⟩ := len1 (l := l) (by omega)
  have hs' : 0 ≤ s ∧ s ≤ 128 := hs0
  rw [← srtF_eq h0 h1, ← nm_srt hh hr.2 hs'.1 hs'.2]
  exact rs_num h hl h1 ha hal (x0 := s) rfl hh
 rw [fit_all hall, nft_low (by omega)]
 by_cases hp : p = 0
 rotate_left 1
 ·rw [if_neg (by simp [hp])]; exact rs_p h hl h1 ha hal rfl hh hp
 by_cases hq : q = 0
 rotate_left 1
 ·rw [if_neg (by simp [hq])]; exact rs_q h hl h1 ha hal rfl hh hp hq
 rw [show (decide (p = 0) && decide (q = 0)) = true by simp [hp, hq], Bool.and_true]
 by_cases h7 : op ≤ 7
 ·have ho : opf op l = (decide (l.getD 0 0 = 0) && alk l) := by unfold opf; rw [if_pos (by omega)]
  have hans : ans op p q l = l.getD 0 0 := by
   unfold ans
   rw [if_neg (by omega), if_neg (by omega), if_neg (by omega), if_neg (by omega), if_neg (by omega), if_neg (by omega), if_neg (by omega)]
  rw [ho, hans]
  cases hk : alk l
  ·rw [if_neg (by simp)]; exact rs_37a h hl h1 ha hal rfl hh hr.1 h7 hp hq hk
  ·by_cases hz : l.getD 0 0 = 0
   ·rw [hz, if_pos (by decide), wd_le (by decide)]; exact rs_37c h hl h1 ha hal rfl hh hr.1 h7 hp hq hk hz
   ·rw [if_neg (by rw [decide_eq_false hz]; decide)]; exact rs_37b h hl h1 ha hal rfl hh hr.1 h7 hp hq hk hz
 by_cases h8 : op = 8
 ·subst h8
  rw [show opf 8 l = alk l from rfl, show ans 8 p q l = 0 from rfl]
  cases hk : alk l
  ·rw [if_neg (by decide)]; exact rs_8a (op := 8) h hl h1 ha hal rfl hp hq hk
  ·rw [if_pos rfl, wd_le (by decide)]; exact rs_8b (op := 8) h hl h1 ha hal rfl hp hq hk
 by_cases h9 : op = 9
 ·subst h9
  obtain ⟨a, b, d, rfl⟩ := len3 (l := l) (by have := ari9; omega)
  have hb : 0 ≤ b ∧ b ≤ 128 := srt_at hall (show 1 < 3 by decide)
  rw [show opf 9 [a, b, d] = (decide (a = 0) && ((b == b) && ((d == b) && true))) from rfl, show ans 9 p q [a, b, d] = b from rfl, wd_le hb.2]
  by_cases ha0 : a = 0
  ·by_cases hbd : b = d
   ·rw [if_pos (by simp [ha0, hbd])]; exact rs_9c (op := 9) h hl h1 ha hal (x0 := a) rfl (x1 := b) (x2 := d) rfl rfl hp hq ha0 hbd
   ·rw [if_neg (by simp [ha0]; intro e; exact hbd e.symm)]; exact rs_9b (op := 9) h hl h1 ha hal (x0 := a) rfl (x1 := b) (x2 := d) rfl rfl hp hq ha0 hbd
  ·rw [if_neg (by simp [ha0])]; exact rs_9a (op := 9) h hl h1 ha hal (x0 := a) rfl (x1 := b) (x2 := d) rfl rfl hp hq ha0
 by_cases h38 : op = 38
 ·subst h38
  obtain ⟨a, b, rfl⟩ := len2 (l := l) (by have := ari38; omega)
  rw [show opf 38 [a, b] = (!decide (a = 0) && !decide (b = 0)) from rfl, show ans 38 p q [a, b] = a + b from rfl]
  by_cases ha0 : a = 0
  ·rw [if_neg (by simp [ha0])]; exact rs_38a (op := 38) h hl h1 ha hal (x0 := a) rfl (x1 := b) rfl hp hq ha0
  ·by_cases hb0 : b = 0
   ·rw [if_neg (by simp [hb0])]; exact rs_38b (op := 38) h hl h1 ha hal (x0 := a) rfl (x1 := b) rfl hp hq ha0 hb0
   ·rw [if_pos (by simp [ha0, hb0])]; exact rs_38c (op := 38) h hl h1 ha hal (x0 := a) rfl (x1 := b) rfl hp hq ha0 hb0
 have h10 : 10 ≤ op := by omega
 have ho : opf op l = (!decide (l.getD 0 0 = 0) && alk l) := by unfold opf; rw [if_neg (by omega), if_neg (by omega), if_neg (by omega), if_neg (by omega)]
 rw [ho]
 cases hk : alk l
 ·rw [if_neg (by simp)]; exact rs_ea h hl h1 ha hal rfl hh h10 h38 hp hq hk
 ·by_cases hz : l.getD 0 0 = 0
  ·rw [hz, if_neg (by decide)]; exact rs_eb h hl h1 ha hal rfl hh h10 h38 hp hq hk hz
  ·rw [if_pos (by rw [decide_eq_false hz]; decide)]
   by_cases h28 : op ≤ 28
   ·have hans : ans op p q l = l.getD 0 0 := by
     unfold ans
     rw [if_neg (by omega), if_neg (by omega), if_neg (by omega), if_neg (by omega), if_neg (by omega), if_neg (by omega), if_neg (by omega)]
    rw [hans, wd_le hs0.2]; exact rs_ec h hl h1 ha hal rfl hh h10 h38 h28 hp hq hk hz
   ·by_cases h37 : op = 37
    ·rw [show ans op p q l = 1 by unfold ans; rw [if_neg (by omega), if_neg (by omega), if_pos h37], wd_le (by decide)]; exact rs_ed h hl h1 ha hal rfl hh h10 h38 h28 h37 hp hq hk hz
    ·rw [show ans op p q l = 0 by unfold ans; rw [if_pos (by omega)], wd_le (by decide)]; exact rs_ee h hl h1 ha hal rfl hh h10 h38 h28 h37 hp hq hk hz
end Go.Proofs.YtejljdbkocnhlaaGreat
