import Derived.Test.YtejljdbkocnhlaaGreatMg15
import Derived.Deep.QuietTactic
import Derived.BigQuiet
namespace Go.Proofs.YtejljdbkocnhlaaGreat
set_option maxHeartbeats 12800000
set_option maxRecDepth 100000
open Go.RowKit
set_option linter.unusedSimpArgs false
set_option linter.unusedVariables false
theorem rs_noop {op p q : Int} {a : Option Addr} {n c : Nat} (hn : n ≤ 1000) (h : ari op < 1) (w : World) :
  Rt 40 #[.int .i64 op, .int .i64 p, .int .i64 q, .slice a n c] w (.tuple #[.int .i64 0, .int .i64 32]) := by
 obtain ⟨r, hr⟩ : ∃ r, r = ari op := ⟨_, rfl⟩
 have HA : Hid (∀ wx, Calls Tryz.prog 32 #[.int .i64 op] wx fun e w' => e = .returned (.int .i64 r) ∧ w' = wx) := fun wx => by rw [hr]; exact refarity_any op wx
 rw [← hr] at h
 clear hr
 go_enter Tryz.func40, Tryz.ntmps40
 go_wp2_with fail
 refine (HA.out _).mono ?_
 rintro e wz ⟨rfl, rfl⟩
 go_wp2_with fail
 refine bodyPost_ret (v := .tuple #[.int .i64 (0), .int .i64 32]) (by simp [results, Tryz.results40, go_sem]) rfl ?_
 exact ⟨rfl, Below.refl _ _⟩
theorem rs_count {op p q : Int} {a : Option Addr} {n c : Nat} (hn : n ≤ 1000) (h : 1 ≤ ari op) (hne : ¬ (n : Int) = ari op) (w : World) :
  Rt 40 #[.int .i64 op, .int .i64 p, .int .i64 q, .slice a n c] w (.tuple #[.int .i64 0, .int .i64 30]) := by
 obtain ⟨r, hr⟩ : ∃ r, r = ari op := ⟨_, rfl⟩
 have HA : Hid (∀ wx, Calls Tryz.prog 32 #[.int .i64 op] wx fun e w' => e = .returned (.int .i64 r) ∧ w' = wx) := fun wx => by rw [hr]; exact refarity_any op wx
 rw [← hr] at h hne
 have z1 : ((n : Int) == r) = false := by simp [hne]
 have z2 : ((n : Int) != r) = true := by simp [hne]
 have z3 : ¬ r < 1 := by omega
 clear hr
 go_enter Tryz.func40, Tryz.ntmps40
 go_wp2_with fail
 refine (HA.out _).mono ?_
 rintro e wz ⟨rfl, rfl⟩
 go_wp2_with fail
 refine bodyPost_ret (v := .tuple #[.int .i64 (0), .int .i64 30]) (by simp [results, Tryz.results40, go_sem]) rfl ?_
 exact ⟨rfl, Below.refl _ _⟩
theorem rs_num {op p q : Int} {w : World} {g o c : Nat} {l : List Int} (h : Li w g o l) (hl : l.length ≤ 1000) (hk : (l.length : Int) = ari op) (h1 : 1 ≤ ari op) (hall : ∀ j, j < l.length → srt (l.getD j 0) = true) {x0 : Int} (hx0 : l.getD 0 0 = x0) (ho : 39 ≤ op)  :
  Rt 40 #[.int .i64 op, .int .i64 p, .int .i64 q, .slice (some ⟨g, o, none⟩) l.length c] w (.tuple #[.int .i64 (nmF op p q x0).1, .int .i64 (nmF op p q x0).2]) := by
 have HC : Hid _ := h
 have HALL : Hid _ := hall
 have hbx : (0 : Int) < (l.length : Int) := by omega
 have hbn : 0 < l.length := by omega
 have c0 : w.cell? ⟨g, o, none⟩ = some (.int .i64 x0) := by rw [← hx0]; exact h 0 hbn
 have hr := ari_range h1
 have s0 := hall 0 hbn
 rw [hx0] at s0
 have ss : 0 ≤ x0 ∧ x0 ≤ 128 := by simpa [srt] using s0
 obtain ⟨E, hE⟩ : ∃ E, E = nmF op p q x0 := ⟨_, rfl⟩
 have HW : Hid (∀ wx, Calls Tryz.prog 88 #[.int .i64 op, .int .i64 p, .int .i64 q, .int .i64 x0] wx fun e w' => e = .returned (.tuple #[.int .i64 E.1, .int .i64 E.2]) ∧ w' = wx) := fun wx => by rw [hE]; exact numbered_any ho hr.2 ss.1 ss.2 wx
 rw [← hE]
 clear hE ss s0 hr
 obtain ⟨n, hn⟩ : ∃ n, n = l.length := ⟨_, rfl⟩
 have HA : Hid (∀ wx, Calls Tryz.prog 32 #[.int .i64 op] wx fun e w' => e = .returned (.int .i64 (n : Int)) ∧ w' = wx) := fun wx => by rw [hn, hk]; exact refarity_any _ wx
 have HN : Hid _ := hn
 have z3 : ¬ (n : Int) < 1 := by omega
 rw [← hn] at hbx hbn hl ⊢
 have zn : ((n : Int) == (n : Int)) = true := by simp
 have yn : ((n : Int) != (n : Int)) = false := by simp
 clear h hall hk h1 hn hx0
 go_enter Tryz.func40, Tryz.ntmps40
 go_wp2_with fail
 refine (HA.out _).mono ?_
 rintro e wz ⟨rfl, hq⟩
 rw [hq]
 clear hq wz
 go_wp2_with fail
 go_loop [11] (fun i => ∃ k : Nat, k ≤ n ∧ i = .int .i64 (k : Int)) (fun i => n - (intOf i).toNat)
 case atStart => exact ⟨0, Nat.zero_le _, rfl⟩
 case round =>
  obtain ⟨k, hk, rfl⟩ := hrel
  by_cases hlt : k < n
  ·obtain ⟨s, hs⟩ : ∃ s, s = l.getD k 0 := ⟨_, rfl⟩
   have hck : w.cell? ⟨g, o + k, none⟩ = some (.int .i64 s) := by rw [hs]; exact HC.out k (by rw [← HN.out]; exact hlt)
   have HI : Hid (∀ wx, Calls Tryz.prog 46 #[.int .i64 s] wx fun e w' => e = .returned (.bool true) ∧ w' = wx) := fun wx => by have := refIs_any s wx; rw [hs, HALL.out k (by rw [← HN.out]; exact hlt)] at this; rw [hs]; exact this
   clear hs
   go_wp2_with fail
   refine (HI.out _).mono ?_
   rintro e wz ⟨rfl, hq⟩
   rw [hq]
   clear hq wz
   go_wp2_with fail
   go_round
   case rel => exact ⟨k + 1, by omega, by go_num⟩
   case measure => simp [intOf]; omega
  ·obtain rfl : k = n := by omega
   go_wp2_with fail
   refine (HW.out _).mono ?_
   rintro e wz ⟨rfl, hq⟩
   rw [hq]
   clear hq wz
   go_wp2_with fail
   refine bodyPost_ret (v := .tuple #[.int .i64 E.1, .int .i64 E.2]) (by simp [results, Tryz.results40, go_sem]) rfl ?_
   exact ⟨rfl, Below.refl _ _⟩
theorem rs_p {op p q : Int} {w : World} {g o c : Nat} {l : List Int} (h : Li w g o l) (hl : l.length ≤ 1000) (hk : (l.length : Int) = ari op) (h1 : 1 ≤ ari op) (hall : ∀ j, j < l.length → srt (l.getD j 0) = true) {x0 : Int} (hx0 : l.getD 0 0 = x0) (ho : ¬ 39 ≤ op) (hp : ¬ p = 0) :
  Rt 40 #[.int .i64 op, .int .i64 p, .int .i64 q, .slice (some ⟨g, o, none⟩) l.length c] w (.tuple #[.int .i64 0, .int .i64 30]) := by
 have HC : Hid _ := h
 have HALL : Hid _ := hall
 have hbx : (0 : Int) < (l.length : Int) := by omega
 have hbn : 0 < l.length := by omega
 have c0 : w.cell? ⟨g, o, none⟩ = some (.int .i64 x0) := by rw [← hx0]; exact h 0 hbn
 have zhp : (p == 0) = false := by simp [hp]
 have yhp : (p != 0) = true := by simp [hp]
 have Hhp : Hid _ := hp
 clear hp
 obtain ⟨n, hn⟩ : ∃ n, n = l.length := ⟨_, rfl⟩
 have HA : Hid (∀ wx, Calls Tryz.prog 32 #[.int .i64 op] wx fun e w' => e = .returned (.int .i64 (n : Int)) ∧ w' = wx) := fun wx => by rw [hn, hk]; exact refarity_any _ wx
 have HN : Hid _ := hn
 have z3 : ¬ (n : Int) < 1 := by omega
 rw [← hn] at hbx hbn hl ⊢
 have zn : ((n : Int) == (n : Int)) = true := by simp
 have yn : ((n : Int) != (n : Int)) = false := by simp
 clear h hall hk h1 hn hx0
 go_enter Tryz.func40, Tryz.ntmps40
 go_wp2_with fail
 refine (HA.out _).mono ?_
 rintro e wz ⟨rfl, hq⟩
 rw [hq]
 clear hq wz
 go_wp2_with fail
 go_loop [11] (fun i => ∃ k : Nat, k ≤ n ∧ i = .int .i64 (k : Int)) (fun i => n - (intOf i).toNat)
 case atStart => exact ⟨0, Nat.zero_le _, rfl⟩
 case round =>
  obtain ⟨k, hk, rfl⟩ := hrel
  by_cases hlt : k < n
  ·obtain ⟨s, hs⟩ : ∃ s, s = l.getD k 0 := ⟨_, rfl⟩
   have hck : w.cell? ⟨g, o + k, none⟩ = some (.int .i64 s) := by rw [hs]; exact HC.out k (by rw [← HN.out]; exact hlt)
   have HI : Hid (∀ wx, Calls Tryz.prog 46 #[.int .i64 s] wx fun e w' => e = .returned (.bool true) ∧ w' = wx) := fun wx => by have := refIs_any s wx; rw [hs, HALL.out k (by rw [← HN.out]; exact hlt)] at this; rw [hs]; exact this
   clear hs
   go_wp2_with fail
   refine (HI.out _).mono ?_
   rintro e wz ⟨rfl, hq⟩
   rw [hq]
   clear hq wz
   go_wp2_with fail
   go_round
   case rel => exact ⟨k + 1, by omega, by go_num⟩
   case measure => simp [intOf]; omega
  ·obtain rfl : k = n := by omega
   go_wp2_with fail
   refine bodyPost_ret (v := .tuple #[.int .i64 0, .int .i64 30]) (by simp [results, Tryz.results40, go_sem]) rfl ?_
   exact ⟨rfl, Below.refl _ _⟩
theorem rs_q {op p q : Int} {w : World} {g o c : Nat} {l : List Int} (h : Li w g o l) (hl : l.length ≤ 1000) (hk : (l.length : Int) = ari op) (h1 : 1 ≤ ari op) (hall : ∀ j, j < l.length → srt (l.getD j 0) = true) {x0 : Int} (hx0 : l.getD 0 0 = x0) (ho : ¬ 39 ≤ op) (hp : p = 0) (hq : ¬ q = 0) :
  Rt 40 #[.int .i64 op, .int .i64 p, .int .i64 q, .slice (some ⟨g, o, none⟩) l.length c] w (.tuple #[.int .i64 0, .int .i64 30]) := by
 have HC : Hid _ := h
 have HALL : Hid _ := hall
 have hbx : (0 : Int) < (l.length : Int) := by omega
 have hbn : 0 < l.length := by omega
 have c0 : w.cell? ⟨g, o, none⟩ = some (.int .i64 x0) := by rw [← hx0]; exact h 0 hbn
 have zhp : (p == 0) = true := by simp [hp]
 have yhp : (p != 0) = false := by simp [hp]
 have Hhp : Hid _ := hp
 clear hp
 have zhq : (q == 0) = false := by simp [hq]
 have yhq : (q != 0) = true := by simp [hq]
 have Hhq : Hid _ := hq
 clear hq
 obtain ⟨n, hn⟩ : ∃ n, n = l.length := ⟨_, rfl⟩
 have HA : Hid (∀ wx, Calls Tryz.prog 32 #[.int .i64 op] wx fun e w' => e = .returned (.int .i64 (n : Int)) ∧ w' = wx) := fun wx => by rw [hn, hk]; exact refarity_any _ wx
 have HN : Hid _ := hn
 have z3 : ¬ (n : Int) < 1 := by omega
 rw [← hn] at hbx hbn hl ⊢
 have zn : ((n : Int) == (n : Int)) = true := by simp
 have yn : ((n : Int) != (n : Int)) = false := by simp
 clear h hall hk h1 hn hx0
 go_enter Tryz.func40, Tryz.ntmps40
 go_wp2_with fail
 refine (HA.out _).mono ?_
 rintro e wz ⟨rfl, hq⟩
 rw [hq]
 clear hq wz
 go_wp2_with fail
 go_loop [11] (fun i => ∃ k : Nat, k ≤ n ∧ i = .int .i64 (k : Int)) (fun i => n - (intOf i).toNat)
 case atStart => exact ⟨0, Nat.zero_le _, rfl⟩
 case round =>
  obtain ⟨k, hk, rfl⟩ := hrel
  by_cases hlt : k < n
  ·obtain ⟨s, hs⟩ : ∃ s, s = l.getD k 0 := ⟨_, rfl⟩
   have hck : w.cell? ⟨g, o + k, none⟩ = some (.int .i64 s) := by rw [hs]; exact HC.out k (by rw [← HN.out]; exact hlt)
   have HI : Hid (∀ wx, Calls Tryz.prog 46 #[.int .i64 s] wx fun e w' => e = .returned (.bool true) ∧ w' = wx) := fun wx => by have := refIs_any s wx; rw [hs, HALL.out k (by rw [← HN.out]; exact hlt)] at this; rw [hs]; exact this
   clear hs
   go_wp2_with fail
   refine (HI.out _).mono ?_
   rintro e wz ⟨rfl, hq⟩
   rw [hq]
   clear hq wz
   go_wp2_with fail
   go_round
   case rel => exact ⟨k + 1, by omega, by go_num⟩
   case measure => simp [intOf]; omega
  ·obtain rfl : k = n := by omega
   go_wp2_with fail
   refine bodyPost_ret (v := .tuple #[.int .i64 0, .int .i64 30]) (by simp [results, Tryz.results40, go_sem]) rfl ?_
   exact ⟨rfl, Below.refl _ _⟩
theorem rs_37a {op p q : Int} {w : World} {g o c : Nat} {l : List Int} (h : Li w g o l) (hl : l.length ≤ 1000) (hk : (l.length : Int) = ari op) (h1 : 1 ≤ ari op) (hall : ∀ j, j < l.length → srt (l.getD j 0) = true) {x0 : Int} (hx0 : l.getD 0 0 = x0) (ho : ¬ 39 ≤ op) (h3 : 3 ≤ op) (h7 : op ≤ 7) (hp : p = 0) (hq : q = 0) (ha : alk l = false) :
  Rt 40 #[.int .i64 op, .int .i64 p, .int .i64 q, .slice (some ⟨g, o, none⟩) l.length c] w (.tuple #[.int .i64 0, .int .i64 30]) := by
 have HC : Hid _ := h
 have HALL : Hid _ := hall
 have hbx : (0 : Int) < (l.length : Int) := by omega
 have hbn : 0 < l.length := by omega
 have c0 : w.cell? ⟨g, o, none⟩ = some (.int .i64 x0) := by rw [← hx0]; exact h 0 hbn
 have zhp : (p == 0) = true := by simp [hp]
 have yhp : (p != 0) = false := by simp [hp]
 have Hhp : Hid _ := hp
 clear hp
 have zhq : (q == 0) = true := by simp [hq]
 have yhq : (q != 0) = false := by simp [hq]
 have Hhq : Hid _ := hq
 clear hq
 have HL : Hid (∀ wx, wx = w → Rt 89 #[.slice (some ⟨g, o, none⟩) l.length c] wx (.bool false)) := fun wx hw => by rw [hw]; have := refalike_any (c := c) h hl hbn; rw [ha] at this; exact this
 clear ha
 obtain ⟨n, hn⟩ : ∃ n, n = l.length := ⟨_, rfl⟩
 have HA : Hid (∀ wx, Calls Tryz.prog 32 #[.int .i64 op] wx fun e w' => e = .returned (.int .i64 (n : Int)) ∧ w' = wx) := fun wx => by rw [hn, hk]; exact refarity_any _ wx
 have HN : Hid _ := hn
 have z3 : ¬ (n : Int) < 1 := by omega
 rw [← hn] at hbx hbn hl HL ⊢
 have zn : ((n : Int) == (n : Int)) = true := by simp
 have yn : ((n : Int) != (n : Int)) = false := by simp
 clear h hall hk h1 hn hx0
 go_enter Tryz.func40, Tryz.ntmps40
 go_wp2_with fail
 refine (HA.out _).mono ?_
 rintro e wz ⟨rfl, hq⟩
 rw [hq]
 clear hq wz
 go_wp2_with fail
 go_loop [11] (fun i => ∃ k : Nat, k ≤ n ∧ i = .int .i64 (k : Int)) (fun i => n - (intOf i).toNat)
 case atStart => exact ⟨0, Nat.zero_le _, rfl⟩
 case round =>
  obtain ⟨k, hk, rfl⟩ := hrel
  by_cases hlt : k < n
  ·obtain ⟨s, hs⟩ : ∃ s, s = l.getD k 0 := ⟨_, rfl⟩
   have hck : w.cell? ⟨g, o + k, none⟩ = some (.int .i64 s) := by rw [hs]; exact HC.out k (by rw [← HN.out]; exact hlt)
   have HI : Hid (∀ wx, Calls Tryz.prog 46 #[.int .i64 s] wx fun e w' => e = .returned (.bool true) ∧ w' = wx) := fun wx => by have := refIs_any s wx; rw [hs, HALL.out k (by rw [← HN.out]; exact hlt)] at this; rw [hs]; exact this
   clear hs
   go_wp2_with fail
   refine (HI.out _).mono ?_
   rintro e wz ⟨rfl, hq⟩
   rw [hq]
   clear hq wz
   go_wp2_with fail
   go_round
   case rel => exact ⟨k + 1, by omega, by go_num⟩
   case measure => simp [intOf]; omega
  ·obtain rfl : k = n := by omega
   go_wp2_with fail
   refine (HL.out _ rfl).mono ?_
   rintro e w2 ⟨rfl, hb⟩
   have d0 : w2.cell? ⟨g, o, none⟩ = some (.int .i64 x0) := by rw [hb.cell (p := ⟨g, o, none⟩) (World.block_lt_of_cell? _ _ c0)]; exact c0
   go_wp2_with fail
   refine bodyPost_ret (v := .tuple #[.int .i64 0, .int .i64 30]) (by simp [results, Tryz.results40, go_sem]) rfl ?_
   exact ⟨rfl, hb⟩
theorem rs_37b {op p q : Int} {w : World} {g o c : Nat} {l : List Int} (h : Li w g o l) (hl : l.length ≤ 1000) (hk : (l.length : Int) = ari op) (h1 : 1 ≤ ari op) (hall : ∀ j, j < l.length → srt (l.getD j 0) = true) {x0 : Int} (hx0 : l.getD 0 0 = x0) (ho : ¬ 39 ≤ op) (h3 : 3 ≤ op) (h7 : op ≤ 7) (hp : p = 0) (hq : q = 0) (ha : alk l = true) (h0 : ¬ x0 = 0) :
  Rt 40 #[.int .i64 op, .int .i64 p, .int .i64 q, .slice (some ⟨g, o, none⟩) l.length c] w (.tuple #[.int .i64 0, .int .i64 30]) := by
 have HC : Hid _ := h
 have HALL : Hid _ := hall
 have hbx : (0 : Int) < (l.length : Int) := by omega
 have hbn : 0 < l.length := by omega
 have c0 : w.cell? ⟨g, o, none⟩ = some (.int .i64 x0) := by rw [← hx0]; exact h 0 hbn
 have zhp : (p == 0) = true := by simp [hp]
 have yhp : (p != 0) = false := by simp [hp]
 have Hhp : Hid _ := hp
 clear hp
 have zhq : (q == 0) = true := by simp [hq]
 have yhq : (q != 0) = false := by simp [hq]
 have Hhq : Hid _ := hq
 clear hq
 have HL : Hid (∀ wx, wx = w → Rt 89 #[.slice (some ⟨g, o, none⟩) l.length c] wx (.bool true)) := fun wx hw => by rw [hw]; have := refalike_any (c := c) h hl hbn; rw [ha] at this; exact this
 clear ha
 have zh0 : (x0 == 0) = false := by simp [h0]
 have yh0 : (x0 != 0) = true := by simp [h0]
 have Hh0 : Hid _ := h0
 clear h0
 obtain ⟨n, hn⟩ : ∃ n, n = l.length := ⟨_, rfl⟩
 have HA : Hid (∀ wx, Calls Tryz.prog 32 #[.int .i64 op] wx fun e w' => e = .returned (.int .i64 (n : Int)) ∧ w' = wx) := fun wx => by rw [hn, hk]; exact refarity_any _ wx
 have HN : Hid _ := hn
 have z3 : ¬ (n : Int) < 1 := by omega
 rw [← hn] at hbx hbn hl HL ⊢
 have zn : ((n : Int) == (n : Int)) = true := by simp
 have yn : ((n : Int) != (n : Int)) = false := by simp
 clear h hall hk h1 hn hx0
 go_enter Tryz.func40, Tryz.ntmps40
 go_wp2_with fail
 refine (HA.out _).mono ?_
 rintro e wz ⟨rfl, hq⟩
 rw [hq]
 clear hq wz
 go_wp2_with fail
 go_loop [11] (fun i => ∃ k : Nat, k ≤ n ∧ i = .int .i64 (k : Int)) (fun i => n - (intOf i).toNat)
 case atStart => exact ⟨0, Nat.zero_le _, rfl⟩
 case round =>
  obtain ⟨k, hk, rfl⟩ := hrel
  by_cases hlt : k < n
  ·obtain ⟨s, hs⟩ : ∃ s, s = l.getD k 0 := ⟨_, rfl⟩
   have hck : w.cell? ⟨g, o + k, none⟩ = some (.int .i64 s) := by rw [hs]; exact HC.out k (by rw [← HN.out]; exact hlt)
   have HI : Hid (∀ wx, Calls Tryz.prog 46 #[.int .i64 s] wx fun e w' => e = .returned (.bool true) ∧ w' = wx) := fun wx => by have := refIs_any s wx; rw [hs, HALL.out k (by rw [← HN.out]; exact hlt)] at this; rw [hs]; exact this
   clear hs
   go_wp2_with fail
   refine (HI.out _).mono ?_
   rintro e wz ⟨rfl, hq⟩
   rw [hq]
   clear hq wz
   go_wp2_with fail
   go_round
   case rel => exact ⟨k + 1, by omega, by go_num⟩
   case measure => simp [intOf]; omega
  ·obtain rfl : k = n := by omega
   go_wp2_with fail
   refine (HL.out _ rfl).mono ?_
   rintro e w2 ⟨rfl, hb⟩
   have d0 : w2.cell? ⟨g, o, none⟩ = some (.int .i64 x0) := by rw [hb.cell (p := ⟨g, o, none⟩) (World.block_lt_of_cell? _ _ c0)]; exact c0
   go_wp2_with fail
   refine bodyPost_ret (v := .tuple #[.int .i64 0, .int .i64 30]) (by simp [results, Tryz.results40, go_sem]) rfl ?_
   exact ⟨rfl, hb⟩
theorem rs_37c {op p q : Int} {w : World} {g o c : Nat} {l : List Int} (h : Li w g o l) (hl : l.length ≤ 1000) (hk : (l.length : Int) = ari op) (h1 : 1 ≤ ari op) (hall : ∀ j, j < l.length → srt (l.getD j 0) = true) {x0 : Int} (hx0 : l.getD 0 0 = x0) (ho : ¬ 39 ≤ op) (h3 : 3 ≤ op) (h7 : op ≤ 7) (hp : p = 0) (hq : q = 0) (ha : alk l = true) (h0 : x0 = 0) :
  Rt 40 #[.int .i64 op, .int .i64 p, .int .i64 q, .slice (some ⟨g, o, none⟩) l.length c] w (.tuple #[.int .i64 0, .int .i64 0]) := by
 have HC : Hid _ := h
 have HALL : Hid _ := hall
 have hbx : (0 : Int) < (l.length : Int) := by omega
 have hbn : 0 < l.length := by omega
 have c0 : w.cell? ⟨g, o, none⟩ = some (.int .i64 x0) := by rw [← hx0]; exact h 0 hbn
 have zhp : (p == 0) = true := by simp [hp]
 have yhp : (p != 0) = false := by simp [hp]
 have Hhp : Hid _ := hp
 clear hp
 have zhq : (q == 0) = true := by simp [hq]
 have yhq : (q != 0) = false := by simp [hq]
 have Hhq : Hid _ := hq
 clear hq
 have HL : Hid (∀ wx, wx = w → Rt 89 #[.slice (some ⟨g, o, none⟩) l.length c] wx (.bool true)) := fun wx hw => by rw [hw]; have := refalike_any (c := c) h hl hbn; rw [ha] at this; exact this
 clear ha
 have zh0 : (x0 == 0) = true := by simp [h0]
 have yh0 : (x0 != 0) = false := by simp [h0]
 have Hh0 : Hid _ := h0
 clear h0
 obtain ⟨n, hn⟩ : ∃ n, n = l.length := ⟨_, rfl⟩
 have HA : Hid (∀ wx, Calls Tryz.prog 32 #[.int .i64 op] wx fun e w' => e = .returned (.int .i64 (n : Int)) ∧ w' = wx) := fun wx => by rw [hn, hk]; exact refarity_any _ wx
 have HN : Hid _ := hn
 have z3 : ¬ (n : Int) < 1 := by omega
 rw [← hn] at hbx hbn hl HL ⊢
 have zn : ((n : Int) == (n : Int)) = true := by simp
 have yn : ((n : Int) != (n : Int)) = false := by simp
 clear h hall hk h1 hn hx0
 go_enter Tryz.func40, Tryz.ntmps40
 go_wp2_with fail
 refine (HA.out _).mono ?_
 rintro e wz ⟨rfl, hq⟩
 rw [hq]
 clear hq wz
 go_wp2_with fail
 go_loop [11] (fun i => ∃ k : Nat, k ≤ n ∧ i = .int .i64 (k : Int)) (fun i => n - (intOf i).toNat)
 case atStart => exact ⟨0, Nat.zero_le _, rfl⟩
 case round =>
  obtain ⟨k, hk, rfl⟩ := hrel
  by_cases hlt : k < n
  ·obtain ⟨s, hs⟩ : ∃ s, s = l.getD k 0 := ⟨_, rfl⟩
   have hck : w.cell? ⟨g, o + k, none⟩ = some (.int .i64 s) := by rw [hs]; exact HC.out k (by rw [← HN.out]; exact hlt)
   have HI : Hid (∀ wx, Calls Tryz.prog 46 #[.int .i64 s] wx fun e w' => e = .returned (.bool true) ∧ w' = wx) := fun wx => by have := refIs_any s wx; rw [hs, HALL.out k (by rw [← HN.out]; exact hlt)] at this; rw [hs]; exact this
   clear hs
   go_wp2_with fail
   refine (HI.out _).mono ?_
   rintro e wz ⟨rfl, hq⟩
   rw [hq]
   clear hq wz
   go_wp2_with fail
   go_round
   case rel => exact ⟨k + 1, by omega, by go_num⟩
   case measure => simp [intOf]; omega
  ·obtain rfl : k = n := by omega
   go_wp2_with fail
   refine (HL.out _ rfl).mono ?_
   rintro e w2 ⟨rfl, hb⟩
   have d0 : w2.cell? ⟨g, o, none⟩ = some (.int .i64 x0) := by rw [hb.cell (p := ⟨g, o, none⟩) (World.block_lt_of_cell? _ _ c0)]; exact c0
   go_wp2_with fail
   refine bodyPost_ret (v := .tuple #[.int .i64 0, .int .i64 0]) (by simp [results, Tryz.results40, go_sem]) rfl ?_
   exact ⟨rfl, hb⟩
theorem rs_ea {op p q : Int} {w : World} {g o c : Nat} {l : List Int} (h : Li w g o l) (hl : l.length ≤ 1000) (hk : (l.length : Int) = ari op) (h1 : 1 ≤ ari op) (hall : ∀ j, j < l.length → srt (l.getD j 0) = true) {x0 : Int} (hx0 : l.getD 0 0 = x0) (ho : ¬ 39 ≤ op) (h10 : 10 ≤ op) (h38 : ¬ op = 38) (hp : p = 0) (hq : q = 0) (ha : alk l = false) :
  Rt 40 #[.int .i64 op, .int .i64 p, .int .i64 q, .slice (some ⟨g, o, none⟩) l.length c] w (.tuple #[.int .i64 0, .int .i64 30]) := by
 have HC : Hid _ := h
 have HALL : Hid _ := hall
 have hbx : (0 : Int) < (l.length : Int) := by omega
 have hbn : 0 < l.length := by omega
 have c0 : w.cell? ⟨g, o, none⟩ = some (.int .i64 x0) := by rw [← hx0]; exact h 0 hbn
 have zhp : (p == 0) = true := by simp [hp]
 have yhp : (p != 0) = false := by simp [hp]
 have Hhp : Hid _ := hp
 clear hp
 have zhq : (q == 0) = true := by simp [hq]
 have yhq : (q != 0) = false := by simp [hq]
 have Hhq : Hid _ := hq
 clear hq
 have h7 : ¬ op ≤ 7 := by omega
 have h3 : 3 ≤ op := by omega
 have z8 : (op == 8) = false := by simp; omega
 have z9 : (op == 9) = false := by simp; omega
 have z38 : (op == 38) = false := by simp; omega
 clear h38
 have HL : Hid (∀ wx, wx = w → Rt 89 #[.slice (some ⟨g, o, none⟩) l.length c] wx (.bool false)) := fun wx hw => by rw [hw]; have := refalike_any (c := c) h hl hbn; rw [ha] at this; exact this
 clear ha
 obtain ⟨n, hn⟩ : ∃ n, n = l.length := ⟨_, rfl⟩
 have HA : Hid (∀ wx, Calls Tryz.prog 32 #[.int .i64 op] wx fun e w' => e = .returned (.int .i64 (n : Int)) ∧ w' = wx) := fun wx => by rw [hn, hk]; exact refarity_any _ wx
 have HN : Hid _ := hn
 have z3 : ¬ (n : Int) < 1 := by omega
 rw [← hn] at hbx hbn hl HL ⊢
 have zn : ((n : Int) == (n : Int)) = true := by simp
 have yn : ((n : Int) != (n : Int)) = false := by simp
 clear h hall hk h1 hn hx0
 go_enter Tryz.func40, Tryz.ntmps40
 go_wp2_with fail
 refine (HA.out _).mono ?_
 rintro e wz ⟨rfl, hq⟩
 rw [hq]
 clear hq wz
 go_wp2_with fail
 go_loop [11] (fun i => ∃ k : Nat, k ≤ n ∧ i = .int .i64 (k : Int)) (fun i => n - (intOf i).toNat)
 case atStart => exact ⟨0, Nat.zero_le _, rfl⟩
 case round =>
  obtain ⟨k, hk, rfl⟩ := hrel
  by_cases hlt : k < n
  ·obtain ⟨s, hs⟩ : ∃ s, s = l.getD k 0 := ⟨_, rfl⟩
   have hck : w.cell? ⟨g, o + k, none⟩ = some (.int .i64 s) := by rw [hs]; exact HC.out k (by rw [← HN.out]; exact hlt)
   have HI : Hid (∀ wx, Calls Tryz.prog 46 #[.int .i64 s] wx fun e w' => e = .returned (.bool true) ∧ w' = wx) := fun wx => by have := refIs_any s wx; rw [hs, HALL.out k (by rw [← HN.out]; exact hlt)] at this; rw [hs]; exact this
   clear hs
   go_wp2_with fail
   refine (HI.out _).mono ?_
   rintro e wz ⟨rfl, hq⟩
   rw [hq]
   clear hq wz
   go_wp2_with fail
   go_round
   case rel => exact ⟨k + 1, by omega, by go_num⟩
   case measure => simp [intOf]; omega
  ·obtain rfl : k = n := by omega
   go_wp2_with fail
   refine (HL.out _ rfl).mono ?_
   rintro e w2 ⟨rfl, hb⟩
   have d0 : w2.cell? ⟨g, o, none⟩ = some (.int .i64 x0) := by rw [hb.cell (p := ⟨g, o, none⟩) (World.block_lt_of_cell? _ _ c0)]; exact c0
   go_wp2_with fail
   refine bodyPost_ret (v := .tuple #[.int .i64 0, .int .i64 30]) (by simp [results, Tryz.results40, go_sem]) rfl ?_
   exact ⟨rfl, hb⟩
theorem rs_eb {op p q : Int} {w : World} {g o c : Nat} {l : List Int} (h : Li w g o l) (hl : l.length ≤ 1000) (hk : (l.length : Int) = ari op) (h1 : 1 ≤ ari op) (hall : ∀ j, j < l.length → srt (l.getD j 0) = true) {x0 : Int} (hx0 : l.getD 0 0 = x0) (ho : ¬ 39 ≤ op) (h10 : 10 ≤ op) (h38 : ¬ op = 38) (hp : p = 0) (hq : q = 0) (ha : alk l = true) (h0 : x0 = 0) :
  Rt 40 #[.int .i64 op, .int .i64 p, .int .i64 q, .slice (some ⟨g, o, none⟩) l.length c] w (.tuple #[.int .i64 0, .int .i64 30]) := by
 have HC : Hid _ := h
 have HALL : Hid _ := hall
 have hbx : (0 : Int) < (l.length : Int) := by omega
 have hbn : 0 < l.length := by omega
 have c0 : w.cell? ⟨g, o, none⟩ = some (.int .i64 x0) := by rw [← hx0]; exact h 0 hbn
 have zhp : (p == 0) = true := by simp [hp]
 have yhp : (p != 0) = false := by simp [hp]
 have Hhp : Hid _ := hp
 clear hp
 have zhq : (q == 0) = true := by simp [hq]
 have yhq : (q != 0) = false := by simp [hq]
 have Hhq : Hid _ := hq
 clear hq
 have h7 : ¬ op ≤ 7 := by omega
 have h3 : 3 ≤ op := by omega
 have z8 : (op == 8) = false := by simp; omega
 have z9 : (op == 9) = false := by simp; omega
 have z38 : (op == 38) = false := by simp; omega
 clear h38
 have HL : Hid (∀ wx, wx = w → Rt 89 #[.slice (some ⟨g, o, none⟩) l.length c] wx (.bool true)) := fun wx hw => by rw [hw]; have := refalike_any (c := c) h hl hbn; rw [ha] at this; exact this
 clear ha
 have zh0 : (x0 == 0) = true := by simp [h0]
 have yh0 : (x0 != 0) = false := by simp [h0]
 have Hh0 : Hid _ := h0
 clear h0
 obtain ⟨n, hn⟩ : ∃ n, n = l.length := ⟨_, rfl⟩
 have HA : Hid (∀ wx, Calls Tryz.prog 32 #[.int .i64 op] wx fun e w' => e = .returned (.int .i64 (n : Int)) ∧ w' = wx) := fun wx => by rw [hn, hk]; exact refarity_any _ wx
 have HN : Hid _ := hn
 have z3 : ¬ (n : Int) < 1 := by omega
 rw [← hn] at hbx hbn hl HL ⊢
 have zn : ((n : Int) == (n : Int)) = true := by simp
 have yn : ((n : Int) != (n : Int)) = false := by simp
 clear h hall hk h1 hn hx0
 go_enter Tryz.func40, Tryz.ntmps40
 go_wp2_with fail
 refine (HA.out _).mono ?_
 rintro e wz ⟨rfl, hq⟩
 rw [hq]
 clear hq wz
 go_wp2_with fail
 go_loop [11] (fun i => ∃ k : Nat, k ≤ n ∧ i = .int .i64 (k : Int)) (fun i => n - (intOf i).toNat)
 case atStart => exact ⟨0, Nat.zero_le _, rfl⟩
 case round =>
  obtain ⟨k, hk, rfl⟩ := hrel
  by_cases hlt : k < n
  ·obtain ⟨s, hs⟩ : ∃ s, s = l.getD k 0 := ⟨_, rfl⟩
   have hck : w.cell? ⟨g, o + k, none⟩ = some (.int .i64 s) := by rw [hs]; exact HC.out k (by rw [← HN.out]; exact hlt)
   have HI : Hid (∀ wx, Calls Tryz.prog 46 #[.int .i64 s] wx fun e w' => e = .returned (.bool true) ∧ w' = wx) := fun wx => by have := refIs_any s wx; rw [hs, HALL.out k (by rw [← HN.out]; exact hlt)] at this; rw [hs]; exact this
   clear hs
   go_wp2_with fail
   refine (HI.out _).mono ?_
   rintro e wz ⟨rfl, hq⟩
   rw [hq]
   clear hq wz
   go_wp2_with fail
   go_round
   case rel => exact ⟨k + 1, by omega, by go_num⟩
   case measure => simp [intOf]; omega
  ·obtain rfl : k = n := by omega
   go_wp2_with fail
   refine (HL.out _ rfl).mono ?_
   rintro e w2 ⟨rfl, hb⟩
   have d0 : w2.cell? ⟨g, o, none⟩ = some (.int .i64 x0) := by rw [hb.cell (p := ⟨g, o, none⟩) (World.block_lt_of_cell? _ _ c0)]; exact c0
   go_wp2_with fail
   refine bodyPost_ret (v := .tuple #[.int .i64 0, .int .i64 30]) (by simp [results, Tryz.results40, go_sem]) rfl ?_
   exact ⟨rfl, hb⟩
theorem rs_ec {op p q : Int} {w : World} {g o c : Nat} {l : List Int} (h : Li w g o l) (hl : l.length ≤ 1000) (hk : (l.length : Int) = ari op) (h1 : 1 ≤ ari op) (hall : ∀ j, j < l.length → srt (l.getD j 0) = true) {x0 : Int} (hx0 : l.getD 0 0 = x0) (ho : ¬ 39 ≤ op) (h10 : 10 ≤ op) (h38 : ¬ op = 38) (h28 : op ≤ 28) (hp : p = 0) (hq : q = 0) (ha : alk l = true) (h0 : ¬ x0 = 0) :
  Rt 40 #[.int .i64 op, .int .i64 p, .int .i64 q, .slice (some ⟨g, o, none⟩) l.length c] w (.tuple #[.int .i64 x0, .int .i64 0]) := by
 have HC : Hid _ := h
 have HALL : Hid _ := hall
 have hbx : (0 : Int) < (l.length : Int) := by omega
 have hbn : 0 < l.length := by omega
 have c0 : w.cell? ⟨g, o, none⟩ = some (.int .i64 x0) := by rw [← hx0]; exact h 0 hbn
 have zhp : (p == 0) = true := by simp [hp]
 have yhp : (p != 0) = false := by simp [hp]
 have Hhp : Hid _ := hp
 clear hp
 have zhq : (q == 0) = true := by simp [hq]
 have yhq : (q != 0) = false := by simp [hq]
 have Hhq : Hid _ := hq
 clear hq
 have h7 : ¬ op ≤ 7 := by omega
 have h3 : 3 ≤ op := by omega
 have z8 : (op == 8) = false := by simp; omega
 have z9 : (op == 9) = false := by simp; omega
 have z38 : (op == 38) = false := by simp; omega
 clear h38
 have HL : Hid (∀ wx, wx = w → Rt 89 #[.slice (some ⟨g, o, none⟩) l.length c] wx (.bool true)) := fun wx hw => by rw [hw]; have := refalike_any (c := c) h hl hbn; rw [ha] at this; exact this
 clear ha
 have zh0 : (x0 == 0) = false := by simp [h0]
 have yh0 : (x0 != 0) = true := by simp [h0]
 have Hh0 : Hid _ := h0
 clear h0
 obtain ⟨n, hn⟩ : ∃ n, n = l.length := ⟨_, rfl⟩
 have HA : Hid (∀ wx, Calls Tryz.prog 32 #[.int .i64 op] wx fun e w' => e = .returned (.int .i64 (n : Int)) ∧ w' = wx) := fun wx => by rw [hn, hk]; exact refarity_any _ wx
 have HN : Hid _ := hn
 have z3 : ¬ (n : Int) < 1 := by omega
 rw [← hn] at hbx hbn hl HL ⊢
 have zn : ((n : Int) == (n : Int)) = true := by simp
 have yn : ((n : Int) != (n : Int)) = false := by simp
 clear h hall hk h1 hn hx0
 go_enter Tryz.func40, Tryz.ntmps40
 go_wp2_with fail
 refine (HA.out _).mono ?_
 rintro e wz ⟨rfl, hq⟩
 rw [hq]
 clear hq wz
 go_wp2_with fail
 go_loop [11] (fun i => ∃ k : Nat, k ≤ n ∧ i = .int .i64 (k : Int)) (fun i => n - (intOf i).toNat)
 case atStart => exact ⟨0, Nat.zero_le _, rfl⟩
 case round =>
  obtain ⟨k, hk, rfl⟩ := hrel
  by_cases hlt : k < n
  ·obtain ⟨s, hs⟩ : ∃ s, s = l.getD k 0 := ⟨_, rfl⟩
   have hck : w.cell? ⟨g, o + k, none⟩ = some (.int .i64 s) := by rw [hs]; exact HC.out k (by rw [← HN.out]; exact hlt)
   have HI : Hid (∀ wx, Calls Tryz.prog 46 #[.int .i64 s] wx fun e w' => e = .returned (.bool true) ∧ w' = wx) := fun wx => by have := refIs_any s wx; rw [hs, HALL.out k (by rw [← HN.out]; exact hlt)] at this; rw [hs]; exact this
   clear hs
   go_wp2_with fail
   refine (HI.out _).mono ?_
   rintro e wz ⟨rfl, hq⟩
   rw [hq]
   clear hq wz
   go_wp2_with fail
   go_round
   case rel => exact ⟨k + 1, by omega, by go_num⟩
   case measure => simp [intOf]; omega
  ·obtain rfl : k = n := by omega
   go_wp2_with fail
   refine (HL.out _ rfl).mono ?_
   rintro e w2 ⟨rfl, hb⟩
   have d0 : w2.cell? ⟨g, o, none⟩ = some (.int .i64 x0) := by rw [hb.cell (p := ⟨g, o, none⟩) (World.block_lt_of_cell? _ _ c0)]; exact c0
   go_wp2_with fail
   refine bodyPost_ret (v := .tuple #[.int .i64 x0, .int .i64 0]) (by simp [results, Tryz.results40, go_sem]) rfl ?_
   exact ⟨rfl, hb⟩
theorem rs_ed {op p q : Int} {w : World} {g o c : Nat} {l : List Int} (h : Li w g o l) (hl : l.length ≤ 1000) (hk : (l.length : Int) = ari op) (h1 : 1 ≤ ari op) (hall : ∀ j, j < l.length → srt (l.getD j 0) = true) {x0 : Int} (hx0 : l.getD 0 0 = x0) (ho : ¬ 39 ≤ op) (h10 : 10 ≤ op) (h38 : ¬ op = 38) (h28 : ¬ op ≤ 28) (h37 : op = 37) (hp : p = 0) (hq : q = 0) (ha : alk l = true) (h0 : ¬ x0 = 0) :
  Rt 40 #[.int .i64 op, .int .i64 p, .int .i64 q, .slice (some ⟨g, o, none⟩) l.length c] w (.tuple #[.int .i64 1, .int .i64 0]) := by
 have HC : Hid _ := h
 have HALL : Hid _ := hall
 have hbx : (0 : Int) < (l.length : Int) := by omega
 have hbn : 0 < l.length := by omega
 have c0 : w.cell? ⟨g, o, none⟩ = some (.int .i64 x0) := by rw [← hx0]; exact h 0 hbn
 have zhp : (p == 0) = true := by simp [hp]
 have yhp : (p != 0) = false := by simp [hp]
 have Hhp : Hid _ := hp
 clear hp
 have zhq : (q == 0) = true := by simp [hq]
 have yhq : (q != 0) = false := by simp [hq]
 have Hhq : Hid _ := hq
 clear hq
 have h7 : ¬ op ≤ 7 := by omega
 have h3 : 3 ≤ op := by omega
 have z8 : (op == 8) = false := by simp; omega
 have z9 : (op == 9) = false := by simp; omega
 have z38 : (op == 38) = false := by simp; omega
 clear h38
 have z37 : (op == 37) = true := by simp [h37]
 clear h37
 have HL : Hid (∀ wx, wx = w → Rt 89 #[.slice (some ⟨g, o, none⟩) l.length c] wx (.bool true)) := fun wx hw => by rw [hw]; have := refalike_any (c := c) h hl hbn; rw [ha] at this; exact this
 clear ha
 have zh0 : (x0 == 0) = false := by simp [h0]
 have yh0 : (x0 != 0) = true := by simp [h0]
 have Hh0 : Hid _ := h0
 clear h0
 obtain ⟨n, hn⟩ : ∃ n, n = l.length := ⟨_, rfl⟩
 have HA : Hid (∀ wx, Calls Tryz.prog 32 #[.int .i64 op] wx fun e w' => e = .returned (.int .i64 (n : Int)) ∧ w' = wx) := fun wx => by rw [hn, hk]; exact refarity_any _ wx
 have HN : Hid _ := hn
 have z3 : ¬ (n : Int) < 1 := by omega
 rw [← hn] at hbx hbn hl HL ⊢
 have zn : ((n : Int) == (n : Int)) = true := by simp
 have yn : ((n : Int) != (n : Int)) = false := by simp
 clear h hall hk h1 hn hx0
 go_enter Tryz.func40, Tryz.ntmps40
 go_wp2_with fail
 refine (HA.out _).mono ?_
 rintro e wz ⟨rfl, hq⟩
 rw [hq]
 clear hq wz
 go_wp2_with fail
 go_loop [11] (fun i => ∃ k : Nat, k ≤ n ∧ i = .int .i64 (k : Int)) (fun i => n - (intOf i).toNat)
 case atStart => exact ⟨0, Nat.zero_le _, rfl⟩
 case round =>
  obtain ⟨k, hk, rfl⟩ := hrel
  by_cases hlt : k < n
  ·obtain ⟨s, hs⟩ : ∃ s, s = l.getD k 0 := ⟨_, rfl⟩
   have hck : w.cell? ⟨g, o + k, none⟩ = some (.int .i64 s) := by rw [hs]; exact HC.out k (by rw [← HN.out]; exact hlt)
   have HI : Hid (∀ wx, Calls Tryz.prog 46 #[.int .i64 s] wx fun e w' => e = .returned (.bool true) ∧ w' = wx) := fun wx => by have := refIs_any s wx; rw [hs, HALL.out k (by rw [← HN.out]; exact hlt)] at this; rw [hs]; exact this
   clear hs
   go_wp2_with fail
   refine (HI.out _).mono ?_
   rintro e wz ⟨rfl, hq⟩
   rw [hq]
   clear hq wz
   go_wp2_with fail
   go_round
   case rel => exact ⟨k + 1, by omega, by go_num⟩
   case measure => simp [intOf]; omega
  ·obtain rfl : k = n := by omega
   go_wp2_with fail
   refine (HL.out _ rfl).mono ?_
   rintro e w2 ⟨rfl, hb⟩
   have d0 : w2.cell? ⟨g, o, none⟩ = some (.int .i64 x0) := by rw [hb.cell (p := ⟨g, o, none⟩) (World.block_lt_of_cell? _ _ c0)]; exact c0
   go_wp2_with fail
   refine bodyPost_ret (v := .tuple #[.int .i64 1, .int .i64 0]) (by simp [results, Tryz.results40, go_sem]) rfl ?_
   exact ⟨rfl, hb⟩
theorem rs_ee {op p q : Int} {w : World} {g o c : Nat} {l : List Int} (h : Li w g o l) (hl : l.length ≤ 1000) (hk : (l.length : Int) = ari op) (h1 : 1 ≤ ari op) (hall : ∀ j, j < l.length → srt (l.getD j 0) = true) {x0 : Int} (hx0 : l.getD 0 0 = x0) (ho : ¬ 39 ≤ op) (h10 : 10 ≤ op) (h38 : ¬ op = 38) (h28 : ¬ op ≤ 28) (h37 : ¬ op = 37) (hp : p = 0) (hq : q = 0) (ha : alk l = true) (h0 : ¬ x0 = 0) :
  Rt 40 #[.int .i64 op, .int .i64 p, .int .i64 q, .slice (some ⟨g, o, none⟩) l.length c] w (.tuple #[.int .i64 0, .int .i64 0]) := by
 have HC : Hid _ := h
 have HALL : Hid _ := hall
 have hbx : (0 : Int) < (l.length : Int) := by omega
 have hbn : 0 < l.length := by omega
 have c0 : w.cell? ⟨g, o, none⟩ = some (.int .i64 x0) := by rw [← hx0]; exact h 0 hbn
 have zhp : (p == 0) = true := by simp [hp]
 have yhp : (p != 0) = false := by simp [hp]
 have Hhp : Hid _ := hp
 clear hp
 have zhq : (q == 0) = true := by simp [hq]
 have yhq : (q != 0) = false := by simp [hq]
 have Hhq : Hid _ := hq
 clear hq
 have h7 : ¬ op ≤ 7 := by omega
 have h3 : 3 ≤ op := by omega
 have z8 : (op == 8) = false := by simp; omega
 have z9 : (op == 9) = false := by simp; omega
 have z38 : (op == 38) = false := by simp; omega
 clear h38
 have z37 : (op == 37) = false := by simp [h37]
 clear h37
 have HL : Hid (∀ wx, wx = w → Rt 89 #[.slice (some ⟨g, o, none⟩) l.length c] wx (.bool true)) := fun wx hw => by rw [hw]; have := refalike_any (c := c) h hl hbn; rw [ha] at this; exact this
 clear ha
 have zh0 : (x0 == 0) = false := by simp [h0]
 have yh0 : (x0 != 0) = true := by simp [h0]
 have Hh0 : Hid _ := h0
 clear h0
 obtain ⟨n, hn⟩ : ∃ n, n = l.length := ⟨_, rfl⟩
 have HA : Hid (∀ wx, Calls Tryz.prog 32 #[.int .i64 op] wx fun e w' => e = .returned (.int .i64 (n : Int)) ∧ w' = wx) := fun wx => by rw [hn, hk]; exact refarity_any _ wx
 have HN : Hid _ := hn
 have z3 : ¬ (n : Int) < 1 := by omega
 rw [← hn] at hbx hbn hl HL ⊢
 have zn : ((n : Int) == (n : Int)) = true := by simp
 have yn : ((n : Int) != (n : Int)) = false := by simp
 clear h hall hk h1 hn hx0
 go_enter Tryz.func40, Tryz.ntmps40
 go_wp2_with fail
 refine (HA.out _).mono ?_
 rintro e wz ⟨rfl, hq⟩
 rw [hq]
 clear hq wz
 go_wp2_with fail
 go_loop [11] (fun i => ∃ k : Nat, k ≤ n ∧ i = .int .i64 (k : Int)) (fun i => n - (intOf i).toNat)
 case atStart => exact ⟨0, Nat.zero_le _, rfl⟩
 case round =>
  obtain ⟨k, hk, rfl⟩ := hrel
  by_cases hlt : k < n
  ·obtain ⟨s, hs⟩ : ∃ s, s = l.getD k 0 := ⟨_, rfl⟩
   have hck : w.cell? ⟨g, o + k, none⟩ = some (.int .i64 s) := by rw [hs]; exact HC.out k (by rw [← HN.out]; exact hlt)
   have HI : Hid (∀ wx, Calls Tryz.prog 46 #[.int .i64 s] wx fun e w' => e = .returned (.bool true) ∧ w' = wx) := fun wx => by have := refIs_any s wx; rw [hs, HALL.out k (by rw [← HN.out]; exact hlt)] at this; rw [hs]; exact this
   clear hs
   go_wp2_with fail
   refine (HI.out _).mono ?_
   rintro e wz ⟨rfl, hq⟩
   rw [hq]
   clear hq wz
   go_wp2_with fail
   go_round
   case rel => exact ⟨k + 1, by omega, by go_num⟩
   case measure => simp [intOf]; omega
  ·obtain rfl : k = n := by omega
   go_wp2_with fail
   refine (HL.out _ rfl).mono ?_
   rintro e w2 ⟨rfl, hb⟩
   have d0 : w2.cell? ⟨g, o, none⟩ = some (.int .i64 x0) := by rw [hb.cell (p := ⟨g, o, none⟩) (World.block_lt_of_cell? _ _ c0)]; exact c0
   go_wp2_with fail
   refine bodyPost_ret (v := .tuple #[.int .i64 0, .int .i64 0]) (by simp [results, Tryz.results40, go_sem]) rfl ?_
   exact ⟨rfl, hb⟩
end Go.Proofs.YtejljdbkocnhlaaGreat
