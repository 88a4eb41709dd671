/- Contracts (the document's terms): an operator's sort. -/
import Derived.Test.YtnflphhckgeneaaGreatX11
namespace Go.Proofs.YtnflphhckgeneaaGreat
set_option maxHeartbeats 12800000
set_option maxRecDepth 100000
open Go.RowKit
set_option linter.unusedSimpArgs false
set_option linter.unusedVariables false

theorem ari9 : ari 9 = 3 := by decide
theorem ari38 : ari 38 = 2 := by decide
theorem rs_8a {op p q : Int} {w : World} {g o c : Nat} {l : List Int} (h : Li w g o l) (hl : l.length ≤ 1000) (hk : (l.length : Int) = ari 8) (h1 : 1 ≤ ari 8) (hall : ∀ j, j < l.length → srt (l.getD j 0) = true) {x0 : Int} (hx0 : l.getD 0 0 = x0)  (hp : p = 0) (hq : q = 0) (ha : alk l = false) :
    Rt 40 #[.int .i64 8, .int .i64 p, .int .i64 q, .slice (some ⟨g, o, none⟩) l.length c] w (.tuple #[.int .i64 0, .int .i64 30]) := by
  have HC : Hid _ := h
  have HALL : Hid _ := hall
  have hbx : (0 : Int) < (l.length : Int) := by omega
  have hbn : 0 < l.length := by omega
  have c0 : w.cell? ⟨g, o, none⟩ = some (.int .i64 x0) := by rw [← hx0]; exact h 0 hbn
  have zhp : (p == 0) = true := by simp [hp]
  have yhp : (p != 0) = false := by simp [hp]
  have Hhp : Hid _ := hp
  clear hp
  have zhq : (q == 0) = true := by simp [hq]
  have yhq : (q != 0) = false := by simp [hq]
  have Hhq : Hid _ := hq
  clear hq
  have HL : Hid (∀ wx, wx = w → Rt 89 #[.slice (some ⟨g, o, none⟩) l.length c] wx (.bool false)) := fun wx hw => by rw [hw]; have := refalike_any (c := c) h hl hbn; rw [ha] at this; exact this
  clear ha
  obtain ⟨n, hn⟩ : ∃ n, n = l.length := ⟨_, rfl⟩
  have HA : Hid (∀ wx, Calls Tryz.prog 32 #[.int .i64 8] wx fun e w' => e = .returned (.int .i64 (n : Int)) ∧ w' = wx) := fun wx => by rw [hn, hk]; exact refarity_any _ wx
  have HN : Hid _ := hn
  have z3 : ¬ (n : Int) < 1 := by omega
  rw [← hn] at hbx hbn hl HL ⊢
  have zn : ((n : Int) == (n : Int)) = true := by simp
  have yn : ((n : Int) != (n : Int)) = false := by simp
  clear h hall hk h1 hn hx0
  go_enter Tryz.func40, Tryz.ntmps40
  go_wp2_with fail
  refine (HA.out _).mono ?_
  rintro e wz ⟨rfl, hq⟩
  rw [hq]
  clear hq wz
  go_wp2_with fail
  go_loop [11] (fun i => ∃ k : Nat, k ≤ n ∧ i = .int .i64 (k : Int)) (fun i => n - (intOf i).toNat)
  case atStart => exact ⟨0, Nat.zero_le _, rfl⟩
  case round =>
    obtain ⟨k, hk, rfl⟩ := hrel
    by_cases hlt : k < n
    · obtain ⟨s, hs⟩ : ∃ s, s = l.getD k 0 := ⟨_, rfl⟩
      have hck : w.cell? ⟨g, o + k, none⟩ = some (.int .i64 s) := by rw [hs]; exact HC.out k (by rw [← HN.out]; exact hlt)
      have HI : Hid (∀ wx, Calls Tryz.prog 46 #[.int .i64 s] wx fun e w' => e = .returned (.bool true) ∧ w' = wx) := fun wx => by have := refIs_any s wx; rw [hs, HALL.out k (by rw [← HN.out]; exact hlt)] at this; rw [hs]; exact this
      clear hs
      go_wp2_with fail
      refine (HI.out _).mono ?_
      rintro e wz ⟨rfl, hq⟩
      rw [hq]
      clear hq wz
      go_wp2_with fail
      go_round
      case rel => exact ⟨k + 1, by omega, by go_num⟩
      case measure => simp [intOf]; omega
    · obtain rfl : k = n := by omega
      go_wp2_with fail
      refine (HL.out _ rfl).mono ?_
      rintro e w2 ⟨rfl, hb⟩
      have d0 : w2.cell? ⟨g, o, none⟩ = some (.int .i64 x0) := by rw [hb.cell (p := ⟨g, o, none⟩) (World.block_lt_of_cell? _ _ c0)]; exact c0
      go_wp2_with fail
      refine bodyPost_ret (v := .tuple #[.int .i64 0, .int .i64 30]) (by simp [results, Tryz.results40, go_sem]) rfl ?_
      exact ⟨rfl, hb⟩
theorem rs_8b {op p q : Int} {w : World} {g o c : Nat} {l : List Int} (h : Li w g o l) (hl : l.length ≤ 1000) (hk : (l.length : Int) = ari 8) (h1 : 1 ≤ ari 8) (hall : ∀ j, j < l.length → srt (l.getD j 0) = true) {x0 : Int} (hx0 : l.getD 0 0 = x0)  (hp : p = 0) (hq : q = 0) (ha : alk l = true) :
    Rt 40 #[.int .i64 8, .int .i64 p, .int .i64 q, .slice (some ⟨g, o, none⟩) l.length c] w (.tuple #[.int .i64 0, .int .i64 0]) := by
  have HC : Hid _ := h
  have HALL : Hid _ := hall
  have hbx : (0 : Int) < (l.length : Int) := by omega
  have hbn : 0 < l.length := by omega
  have c0 : w.cell? ⟨g, o, none⟩ = some (.int .i64 x0) := by rw [← hx0]; exact h 0 hbn
  have zhp : (p == 0) = true := by simp [hp]
  have yhp : (p != 0) = false := by simp [hp]
  have Hhp : Hid _ := hp
  clear hp
  have zhq : (q == 0) = true := by simp [hq]
  have yhq : (q != 0) = false := by simp [hq]
  have Hhq : Hid _ := hq
  clear hq
  have HL : Hid (∀ wx, wx = w → Rt 89 #[.slice (some ⟨g, o, none⟩) l.length c] wx (.bool true)) := fun wx hw => by rw [hw]; have := refalike_any (c := c) h hl hbn; rw [ha] at this; exact this
  clear ha
  obtain ⟨n, hn⟩ : ∃ n, n = l.length := ⟨_, rfl⟩
  have HA : Hid (∀ wx, Calls Tryz.prog 32 #[.int .i64 8] wx fun e w' => e = .returned (.int .i64 (n : Int)) ∧ w' = wx) := fun wx => by rw [hn, hk]; exact refarity_any _ wx
  have HN : Hid _ := hn
  have z3 : ¬ (n : Int) < 1 := by omega
  rw [← hn] at hbx hbn hl HL ⊢
  have zn : ((n : Int) == (n : Int)) = true := by simp
  have yn : ((n : Int) != (n : Int)) = false := by simp
  clear h hall hk h1 hn hx0
  go_enter Tryz.func40, Tryz.ntmps40
  go_wp2_with fail
  refine (HA.out _).mono ?_
  rintro e wz ⟨rfl, hq⟩
  rw [hq]
  clear hq wz
  go_wp2_with fail
  go_loop [11] (fun i => ∃ k : Nat, k ≤ n ∧ i = .int .i64 (k : Int)) (fun i => n - (intOf i).toNat)
  case atStart => exact ⟨0, Nat.zero_le _, rfl⟩
  case round =>
    obtain ⟨k, hk, rfl⟩ := hrel
    by_cases hlt : k < n
    · obtain ⟨s, hs⟩ : ∃ s, s = l.getD k 0 := ⟨_, rfl⟩
      have hck : w.cell? ⟨g, o + k, none⟩ = some (.int .i64 s) := by rw [hs]; exact HC.out k (by rw [← HN.out]; exact hlt)
      have HI : Hid (∀ wx, Calls Tryz.prog 46 #[.int .i64 s] wx fun e w' => e = .returned (.bool true) ∧ w' = wx) := fun wx => by have := refIs_any s wx; rw [hs, HALL.out k (by rw [← HN.out]; exact hlt)] at this; rw [hs]; exact this
      clear hs
      go_wp2_with fail
      refine (HI.out _).mono ?_
      rintro e wz ⟨rfl, hq⟩
      rw [hq]
      clear hq wz
      go_wp2_with fail
      go_round
      case rel => exact ⟨k + 1, by omega, by go_num⟩
      case measure => simp [intOf]; omega
    · obtain rfl : k = n := by omega
      go_wp2_with fail
      refine (HL.out _ rfl).mono ?_
      rintro e w2 ⟨rfl, hb⟩
      have d0 : w2.cell? ⟨g, o, none⟩ = some (.int .i64 x0) := by rw [hb.cell (p := ⟨g, o, none⟩) (World.block_lt_of_cell? _ _ c0)]; exact c0
      go_wp2_with fail
      refine bodyPost_ret (v := .tuple #[.int .i64 0, .int .i64 0]) (by simp [results, Tryz.results40, go_sem]) rfl ?_
      exact ⟨rfl, hb⟩
theorem rs_9a {op p q : Int} {w : World} {g o c : Nat} {l : List Int} (h : Li w g o l) (hl : l.length ≤ 1000) (hk : (l.length : Int) = ari 9) (h1 : 1 ≤ ari 9) (hall : ∀ j, j < l.length → srt (l.getD j 0) = true) {x0 : Int} (hx0 : l.getD 0 0 = x0) {x1 x2 : Int} (hx1 : l.getD 1 0 = x1) (hx2 : l.getD 2 0 = x2) (hp : p = 0) (hq : q = 0) (h0 : ¬ x0 = 0) :
    Rt 40 #[.int .i64 9, .int .i64 p, .int .i64 q, .slice (some ⟨g, o, none⟩) l.length c] w (.tuple #[.int .i64 0, .int .i64 30]) := by
  have HC : Hid _ := h
  have HALL : Hid _ := hall
  have hbx : (0 : Int) < (l.length : Int) := by omega
  have hbn : 0 < l.length := by omega
  have c0 : w.cell? ⟨g, o, none⟩ = some (.int .i64 x0) := by rw [← hx0]; exact h 0 hbn
  have zhp : (p == 0) = true := by simp [hp]
  have yhp : (p != 0) = false := by simp [hp]
  have Hhp : Hid _ := hp
  clear hp
  have zhq : (q == 0) = true := by simp [hq]
  have yhq : (q != 0) = false := by simp [hq]
  have Hhq : Hid _ := hq
  clear hq
  have zh0 : (x0 == 0) = false := by simp [h0]
  have yh0 : (x0 != 0) = true := by simp [h0]
  have Hh0 : Hid _ := h0
  clear h0
  have hb1 : (1 : Int) < (l.length : Int) := by rw [hk, ari9]; decide
  have hb2 : (2 : Int) < (l.length : Int) := by rw [hk, ari9]; decide
  have hm1 : 1 < l.length := by omega
  have hm2 : 2 < l.length := by omega
  have c1 : w.cell? ⟨g, o + 1, none⟩ = some (.int .i64 x1) := by rw [← hx1]; exact h 1 hm1
  have c2 : w.cell? ⟨g, o + 2, none⟩ = some (.int .i64 x2) := by rw [← hx2]; exact h 2 hm2
  clear hx1 hx2
  obtain ⟨n, hn⟩ : ∃ n, n = l.length := ⟨_, rfl⟩
  have HA : Hid (∀ wx, Calls Tryz.prog 32 #[.int .i64 9] wx fun e w' => e = .returned (.int .i64 (n : Int)) ∧ w' = wx) := fun wx => by rw [hn, hk]; exact refarity_any _ wx
  have HN : Hid _ := hn
  have z3 : ¬ (n : Int) < 1 := by omega
  rw [← hn] at hbx hbn hl hb1 hb2 hm1 hm2 ⊢
  have zn : ((n : Int) == (n : Int)) = true := by simp
  have yn : ((n : Int) != (n : Int)) = false := by simp
  clear h hall hk h1 hn hx0
  go_enter Tryz.func40, Tryz.ntmps40
  go_wp2_with fail
  refine (HA.out _).mono ?_
  rintro e wz ⟨rfl, hq⟩
  rw [hq]
  clear hq wz
  go_wp2_with fail
  go_loop [11] (fun i => ∃ k : Nat, k ≤ n ∧ i = .int .i64 (k : Int)) (fun i => n - (intOf i).toNat)
  case atStart => exact ⟨0, Nat.zero_le _, rfl⟩
  case round =>
    obtain ⟨k, hk, rfl⟩ := hrel
    by_cases hlt : k < n
    · obtain ⟨s, hs⟩ : ∃ s, s = l.getD k 0 := ⟨_, rfl⟩
      have hck : w.cell? ⟨g, o + k, none⟩ = some (.int .i64 s) := by rw [hs]; exact HC.out k (by rw [← HN.out]; exact hlt)
      have HI : Hid (∀ wx, Calls Tryz.prog 46 #[.int .i64 s] wx fun e w' => e = .returned (.bool true) ∧ w' = wx) := fun wx => by have := refIs_any s wx; rw [hs, HALL.out k (by rw [← HN.out]; exact hlt)] at this; rw [hs]; exact this
      clear hs
      go_wp2_with fail
      refine (HI.out _).mono ?_
      rintro e wz ⟨rfl, hq⟩
      rw [hq]
      clear hq wz
      go_wp2_with fail
      go_round
      case rel => exact ⟨k + 1, by omega, by go_num⟩
      case measure => simp [intOf]; omega
    · obtain rfl : k = n := by omega
      go_wp2_with fail
      go_quiet (fail)
      go_wp2_with fail
      refine bodyPost_ret (v := .tuple #[.int .i64 0, .int .i64 30]) (by simp [results, Tryz.results40, go_sem]) rfl ?_
      exact ⟨rfl, below_drewN (Below.refl _ _) _⟩
theorem rs_9b {op p q : Int} {w : World} {g o c : Nat} {l : List Int} (h : Li w g o l) (hl : l.length ≤ 1000) (hk : (l.length : Int) = ari 9) (h1 : 1 ≤ ari 9) (hall : ∀ j, j < l.length → srt (l.getD j 0) = true) {x0 : Int} (hx0 : l.getD 0 0 = x0) {x1 x2 : Int} (hx1 : l.getD 1 0 = x1) (hx2 : l.getD 2 0 = x2) (hp : p = 0) (hq : q = 0) (h0 : x0 = 0) (h12 : ¬ x1 = x2) :
    Rt 40 #[.int .i64 9, .int .i64 p, .int .i64 q, .slice (some ⟨g, o, none⟩) l.length c] w (.tuple #[.int .i64 0, .int .i64 30]) := by
  have HC : Hid _ := h
  have HALL : Hid _ := hall
  have hbx : (0 : Int) < (l.length : Int) := by omega
  have hbn : 0 < l.length := by omega
  have c0 : w.cell? ⟨g, o, none⟩ = some (.int .i64 x0) := by rw [← hx0]; exact h 0 hbn
  have zhp : (p == 0) = true := by simp [hp]
  have yhp : (p != 0) = false := by simp [hp]
  have Hhp : Hid _ := hp
  clear hp
  have zhq : (q == 0) = true := by simp [hq]
  have yhq : (q != 0) = false := by simp [hq]
  have Hhq : Hid _ := hq
  clear hq
  have zh0 : (x0 == 0) = true := by simp [h0]
  have yh0 : (x0 != 0) = false := by simp [h0]
  have Hh0 : Hid _ := h0
  clear h0
  have zh12 : (x1 == x2) = false := by simp [h12]
  have yh12 : (x1 != x2) = true := by simp [h12]
  have Hh12 : Hid _ := h12
  clear h12
  have hb1 : (1 : Int) < (l.length : Int) := by rw [hk, ari9]; decide
  have hb2 : (2 : Int) < (l.length : Int) := by rw [hk, ari9]; decide
  have hm1 : 1 < l.length := by omega
  have hm2 : 2 < l.length := by omega
  have c1 : w.cell? ⟨g, o + 1, none⟩ = some (.int .i64 x1) := by rw [← hx1]; exact h 1 hm1
  have c2 : w.cell? ⟨g, o + 2, none⟩ = some (.int .i64 x2) := by rw [← hx2]; exact h 2 hm2
  clear hx1 hx2
  obtain ⟨n, hn⟩ : ∃ n, n = l.length := ⟨_, rfl⟩
  have HA : Hid (∀ wx, Calls Tryz.prog 32 #[.int .i64 9] wx fun e w' => e = .returned (.int .i64 (n : Int)) ∧ w' = wx) := fun wx => by rw [hn, hk]; exact refarity_any _ wx
  have HN : Hid _ := hn
  have z3 : ¬ (n : Int) < 1 := by omega
  rw [← hn] at hbx hbn hl hb1 hb2 hm1 hm2 ⊢
  have zn : ((n : Int) == (n : Int)) = true := by simp
  have yn : ((n : Int) != (n : Int)) = false := by simp
  clear h hall hk h1 hn hx0
  go_enter Tryz.func40, Tryz.ntmps40
  go_wp2_with fail
  refine (HA.out _).mono ?_
  rintro e wz ⟨rfl, hq⟩
  rw [hq]
  clear hq wz
  go_wp2_with fail
  go_loop [11] (fun i => ∃ k : Nat, k ≤ n ∧ i = .int .i64 (k : Int)) (fun i => n - (intOf i).toNat)
  case atStart => exact ⟨0, Nat.zero_le _, rfl⟩
  case round =>
    obtain ⟨k, hk, rfl⟩ := hrel
    by_cases hlt : k < n
    · obtain ⟨s, hs⟩ : ∃ s, s = l.getD k 0 := ⟨_, rfl⟩
      have hck : w.cell? ⟨g, o + k, none⟩ = some (.int .i64 s) := by rw [hs]; exact HC.out k (by rw [← HN.out]; exact hlt)
      have HI : Hid (∀ wx, Calls Tryz.prog 46 #[.int .i64 s] wx fun e w' => e = .returned (.bool true) ∧ w' = wx) := fun wx => by have := refIs_any s wx; rw [hs, HALL.out k (by rw [← HN.out]; exact hlt)] at this; rw [hs]; exact this
      clear hs
      go_wp2_with fail
      refine (HI.out _).mono ?_
      rintro e wz ⟨rfl, hq⟩
      rw [hq]
      clear hq wz
      go_wp2_with fail
      go_round
      case rel => exact ⟨k + 1, by omega, by go_num⟩
      case measure => simp [intOf]; omega
    · obtain rfl : k = n := by omega
      go_wp2_with fail
      go_quiet (fail)
      go_wp2_with fail
      refine bodyPost_ret (v := .tuple #[.int .i64 0, .int .i64 30]) (by simp [results, Tryz.results40, go_sem]) rfl ?_
      exact ⟨rfl, below_drewN (Below.refl _ _) _⟩
theorem rs_9c {op p q : Int} {w : World} {g o c : Nat} {l : List Int} (h : Li w g o l) (hl : l.length ≤ 1000) (hk : (l.length : Int) = ari 9) (h1 : 1 ≤ ari 9) (hall : ∀ j, j < l.length → srt (l.getD j 0) = true) {x0 : Int} (hx0 : l.getD 0 0 = x0) {x1 x2 : Int} (hx1 : l.getD 1 0 = x1) (hx2 : l.getD 2 0 = x2) (hp : p = 0) (hq : q = 0) (h0 : x0 = 0) (h12 : x1 = x2) :
    Rt 40 #[.int .i64 9, .int .i64 p, .int .i64 q, .slice (some ⟨g, o, none⟩) l.length c] w (.tuple #[.int .i64 x1, .int .i64 0]) := by
  have HC : Hid _ := h
  have HALL : Hid _ := hall
  have hbx : (0 : Int) < (l.length : Int) := by omega
  have hbn : 0 < l.length := by omega
  have c0 : w.cell? ⟨g, o, none⟩ = some (.int .i64 x0) := by rw [← hx0]; exact h 0 hbn
  have zhp : (p == 0) = true := by simp [hp]
  have yhp : (p != 0) = false := by simp [hp]
  have Hhp : Hid _ := hp
  clear hp
  have zhq : (q == 0) = true := by simp [hq]
  have yhq : (q != 0) = false := by simp [hq]
  have Hhq : Hid _ := hq
  clear hq
  have zh0 : (x0 == 0) = true := by simp [h0]
  have yh0 : (x0 != 0) = false := by simp [h0]
  have Hh0 : Hid _ := h0
  clear h0
  have zh12 : (x1 == x2) = true := by simp [h12]
  have yh12 : (x1 != x2) = false := by simp [h12]
  have Hh12 : Hid _ := h12
  clear h12
  have hb1 : (1 : Int) < (l.length : Int) := by rw [hk, ari9]; decide
  have hb2 : (2 : Int) < (l.length : Int) := by rw [hk, ari9]; decide
  have hm1 : 1 < l.length := by omega
  have hm2 : 2 < l.length := by omega
  have c1 : w.cell? ⟨g, o + 1, none⟩ = some (.int .i64 x1) := by rw [← hx1]; exact h 1 hm1
  have c2 : w.cell? ⟨g, o + 2, none⟩ = some (.int .i64 x2) := by rw [← hx2]; exact h 2 hm2
  clear hx1 hx2
  obtain ⟨n, hn⟩ : ∃ n, n = l.length := ⟨_, rfl⟩
  have HA : Hid (∀ wx, Calls Tryz.prog 32 #[.int .i64 9] wx fun e w' => e = .returned (.int .i64 (n : Int)) ∧ w' = wx) := fun wx => by rw [hn, hk]; exact refarity_any _ wx
  have HN : Hid _ := hn
  have z3 : ¬ (n : Int) < 1 := by omega
  rw [← hn] at hbx hbn hl hb1 hb2 hm1 hm2 ⊢
  have zn : ((n : Int) == (n : Int)) = true := by simp
  have yn : ((n : Int) != (n : Int)) = false := by simp
  clear h hall hk h1 hn hx0
  go_enter Tryz.func40, Tryz.ntmps40
  go_wp2_with fail
  refine (HA.out _).mono ?_
  rintro e wz ⟨rfl, hq⟩
  rw [hq]
  clear hq wz
  go_wp2_with fail
  go_loop [11] (fun i => ∃ k : Nat, k ≤ n ∧ i = .int .i64 (k : Int)) (fun i => n - (intOf i).toNat)
  case atStart => exact ⟨0, Nat.zero_le _, rfl⟩
  case round =>
    obtain ⟨k, hk, rfl⟩ := hrel
    by_cases hlt : k < n
    · obtain ⟨s, hs⟩ : ∃ s, s = l.getD k 0 := ⟨_, rfl⟩
      have hck : w.cell? ⟨g, o + k, none⟩ = some (.int .i64 s) := by rw [hs]; exact HC.out k (by rw [← HN.out]; exact hlt)
      have HI : Hid (∀ wx, Calls Tryz.prog 46 #[.int .i64 s] wx fun e w' => e = .returned (.bool true) ∧ w' = wx) := fun wx => by have := refIs_any s wx; rw [hs, HALL.out k (by rw [← HN.out]; exact hlt)] at this; rw [hs]; exact this
      clear hs
      go_wp2_with fail
      refine (HI.out _).mono ?_
      rintro e wz ⟨rfl, hq⟩
      rw [hq]
      clear hq wz
      go_wp2_with fail
      go_round
      case rel => exact ⟨k + 1, by omega, by go_num⟩
      case measure => simp [intOf]; omega
    · obtain rfl : k = n := by omega
      go_wp2_with fail
      go_quiet (fail)
      go_wp2_with fail
      refine bodyPost_ret (v := .tuple #[.int .i64 x1, .int .i64 0]) (by simp [results, Tryz.results40, go_sem]) rfl ?_
      exact ⟨rfl, below_drewN (Below.refl _ _) _⟩
theorem rs_38a {op p q : Int} {w : World} {g o c : Nat} {l : List Int} (h : Li w g o l) (hl : l.length ≤ 1000) (hk : (l.length : Int) = ari 38) (h1 : 1 ≤ ari 38) (hall : ∀ j, j < l.length → srt (l.getD j 0) = true) {x0 : Int} (hx0 : l.getD 0 0 = x0) {x1 : Int} (hx1 : l.getD 1 0 = x1) (hp : p = 0) (hq : q = 0) (h0 : x0 = 0) :
    Rt 40 #[.int .i64 38, .int .i64 p, .int .i64 q, .slice (some ⟨g, o, none⟩) l.length c] w (.tuple #[.int .i64 0, .int .i64 30]) := by
  have HC : Hid _ := h
  have HALL : Hid _ := hall
  have hbx : (0 : Int) < (l.length : Int) := by omega
  have hbn : 0 < l.length := by omega
  have c0 : w.cell? ⟨g, o, none⟩ = some (.int .i64 x0) := by rw [← hx0]; exact h 0 hbn
  have zhp : (p == 0) = true := by simp [hp]
  have yhp : (p != 0) = false := by simp [hp]
  have Hhp : Hid _ := hp
  clear hp
  have zhq : (q == 0) = true := by simp [hq]
  have yhq : (q != 0) = false := by simp [hq]
  have Hhq : Hid _ := hq
  clear hq
  have zh0 : (x0 == 0) = true := by simp [h0]
  have yh0 : (x0 != 0) = false := by simp [h0]
  have Hh0 : Hid _ := h0
  clear h0
  have hb1 : (1 : Int) < (l.length : Int) := by rw [hk, ari38]; decide
  have hm1 : 1 < l.length := by omega
  have c1 : w.cell? ⟨g, o + 1, none⟩ = some (.int .i64 x1) := by rw [← hx1]; exact h 1 hm1
  clear hx1
  obtain ⟨n, hn⟩ : ∃ n, n = l.length := ⟨_, rfl⟩
  have HA : Hid (∀ wx, Calls Tryz.prog 32 #[.int .i64 38] wx fun e w' => e = .returned (.int .i64 (n : Int)) ∧ w' = wx) := fun wx => by rw [hn, hk]; exact refarity_any _ wx
  have HN : Hid _ := hn
  have z3 : ¬ (n : Int) < 1 := by omega
  rw [← hn] at hbx hbn hl hb1 hm1 ⊢
  have zn : ((n : Int) == (n : Int)) = true := by simp
  have yn : ((n : Int) != (n : Int)) = false := by simp
  clear h hall hk h1 hn hx0
  go_enter Tryz.func40, Tryz.ntmps40
  go_wp2_with fail
  refine (HA.out _).mono ?_
  rintro e wz ⟨rfl, hq⟩
  rw [hq]
  clear hq wz
  go_wp2_with fail
  go_loop [11] (fun i => ∃ k : Nat, k ≤ n ∧ i = .int .i64 (k : Int)) (fun i => n - (intOf i).toNat)
  case atStart => exact ⟨0, Nat.zero_le _, rfl⟩
  case round =>
    obtain ⟨k, hk, rfl⟩ := hrel
    by_cases hlt : k < n
    · obtain ⟨s, hs⟩ : ∃ s, s = l.getD k 0 := ⟨_, rfl⟩
      have hck : w.cell? ⟨g, o + k, none⟩ = some (.int .i64 s) := by rw [hs]; exact HC.out k (by rw [← HN.out]; exact hlt)
      have HI : Hid (∀ wx, Calls Tryz.prog 46 #[.int .i64 s] wx fun e w' => e = .returned (.bool true) ∧ w' = wx) := fun wx => by have := refIs_any s wx; rw [hs, HALL.out k (by rw [← HN.out]; exact hlt)] at this; rw [hs]; exact this
      clear hs
      go_wp2_with fail
      refine (HI.out _).mono ?_
      rintro e wz ⟨rfl, hq⟩
      rw [hq]
      clear hq wz
      go_wp2_with fail
      go_round
      case rel => exact ⟨k + 1, by omega, by go_num⟩
      case measure => simp [intOf]; omega
    · obtain rfl : k = n := by omega
      go_wp2_with fail
      refine bodyPost_ret (v := .tuple #[.int .i64 0, .int .i64 30]) (by simp [results, Tryz.results40, go_sem]) rfl ?_
      exact ⟨rfl, Below.refl _ _⟩
theorem rs_38b {op p q : Int} {w : World} {g o c : Nat} {l : List Int} (h : Li w g o l) (hl : l.length ≤ 1000) (hk : (l.length : Int) = ari 38) (h1 : 1 ≤ ari 38) (hall : ∀ j, j < l.length → srt (l.getD j 0) = true) {x0 : Int} (hx0 : l.getD 0 0 = x0) {x1 : Int} (hx1 : l.getD 1 0 = x1) (hp : p = 0) (hq : q = 0) (h0 : ¬ x0 = 0) (h3 : x1 = 0) :
    Rt 40 #[.int .i64 38, .int .i64 p, .int .i64 q, .slice (some ⟨g, o, none⟩) l.length c] w (.tuple #[.int .i64 0, .int .i64 30]) := by
  have HC : Hid _ := h
  have HALL : Hid _ := hall
  have hbx : (0 : Int) < (l.length : Int) := by omega
  have hbn : 0 < l.length := by omega
  have c0 : w.cell? ⟨g, o, none⟩ = some (.int .i64 x0) := by rw [← hx0]; exact h 0 hbn
  have zhp : (p == 0) = true := by simp [hp]
  have yhp : (p != 0) = false := by simp [hp]
  have Hhp : Hid _ := hp
  clear hp
  have zhq : (q == 0) = true := by simp [hq]
  have yhq : (q != 0) = false := by simp [hq]
  have Hhq : Hid _ := hq
  clear hq
  have zh0 : (x0 == 0) = false := by simp [h0]
  have yh0 : (x0 != 0) = true := by simp [h0]
  have Hh0 : Hid _ := h0
  clear h0
  have zh3 : (x1 == 0) = true := by simp [h3]
  have yh3 : (x1 != 0) = false := by simp [h3]
  have Hh3 : Hid _ := h3
  clear h3
  have hb1 : (1 : Int) < (l.length : Int) := by rw [hk, ari38]; decide
  have hm1 : 1 < l.length := by omega
  have c1 : w.cell? ⟨g, o + 1, none⟩ = some (.int .i64 x1) := by rw [← hx1]; exact h 1 hm1
  clear hx1
  obtain ⟨n, hn⟩ : ∃ n, n = l.length := ⟨_, rfl⟩
  have HA : Hid (∀ wx, Calls Tryz.prog 32 #[.int .i64 38] wx fun e w' => e = .returned (.int .i64 (n : Int)) ∧ w' = wx) := fun wx => by rw [hn, hk]; exact refarity_any _ wx
  have HN : Hid _ := hn
  have z3 : ¬ (n : Int) < 1 := by omega
  rw [← hn] at hbx hbn hl hb1 hm1 ⊢
  have zn : ((n : Int) == (n : Int)) = true := by simp
  have yn : ((n : Int) != (n : Int)) = false := by simp
  clear h hall hk h1 hn hx0
  go_enter Tryz.func40, Tryz.ntmps40
  go_wp2_with fail
  refine (HA.out _).mono ?_
  rintro e wz ⟨rfl, hq⟩
  rw [hq]
  clear hq wz
  go_wp2_with fail
  go_loop [11] (fun i => ∃ k : Nat, k ≤ n ∧ i = .int .i64 (k : Int)) (fun i => n - (intOf i).toNat)
  case atStart => exact ⟨0, Nat.zero_le _, rfl⟩
  case round =>
    obtain ⟨k, hk, rfl⟩ := hrel
    by_cases hlt : k < n
    · obtain ⟨s, hs⟩ : ∃ s, s = l.getD k 0 := ⟨_, rfl⟩
      have hck : w.cell? ⟨g, o + k, none⟩ = some (.int .i64 s) := by rw [hs]; exact HC.out k (by rw [← HN.out]; exact hlt)
      have HI : Hid (∀ wx, Calls Tryz.prog 46 #[.int .i64 s] wx fun e w' => e = .returned (.bool true) ∧ w' = wx) := fun wx => by have := refIs_any s wx; rw [hs, HALL.out k (by rw [← HN.out]; exact hlt)] at this; rw [hs]; exact this
      clear hs
      go_wp2_with fail
      refine (HI.out _).mono ?_
      rintro e wz ⟨rfl, hq⟩
      rw [hq]
      clear hq wz
      go_wp2_with fail
      go_round
      case rel => exact ⟨k + 1, by omega, by go_num⟩
      case measure => simp [intOf]; omega
    · obtain rfl : k = n := by omega
      go_wp2_with fail
      refine bodyPost_ret (v := .tuple #[.int .i64 0, .int .i64 30]) (by simp [results, Tryz.results40, go_sem]) rfl ?_
      exact ⟨rfl, Below.refl _ _⟩
theorem rs_38c {op p q : Int} {w : World} {g o c : Nat} {l : List Int} (h : Li w g o l) (hl : l.length ≤ 1000) (hk : (l.length : Int) = ari 38) (h1 : 1 ≤ ari 38) (hall : ∀ j, j < l.length → srt (l.getD j 0) = true) {x0 : Int} (hx0 : l.getD 0 0 = x0) {x1 : Int} (hx1 : l.getD 1 0 = x1) (hp : p = 0) (hq : q = 0) (h0 : ¬ x0 = 0) (h3 : ¬ x1 = 0) :
    Rt 40 #[.int .i64 38, .int .i64 p, .int .i64 q, .slice (some ⟨g, o, none⟩) l.length c] w (.tuple #[.int .i64 (wdF (x0 + x1)).1, .int .i64 (wdF (x0 + x1)).2]) := by
  have HC : Hid _ := h
  have HALL : Hid _ := hall
  have hbx : (0 : Int) < (l.length : Int) := by omega
  have hbn : 0 < l.length := by omega
  have c0 : w.cell? ⟨g, o, none⟩ = some (.int .i64 x0) := by rw [← hx0]; exact h 0 hbn
  have zhp : (p == 0) = true := by simp [hp]
  have yhp : (p != 0) = false := by simp [hp]
  have Hhp : Hid _ := hp
  clear hp
  have zhq : (q == 0) = true := by simp [hq]
  have yhq : (q != 0) = false := by simp [hq]
  have Hhq : Hid _ := hq
  clear hq
  have zh0 : (x0 == 0) = false := by simp [h0]
  have yh0 : (x0 != 0) = true := by simp [h0]
  have Hh0 : Hid _ := h0
  clear h0
  have zh3 : (x1 == 0) = false := by simp [h3]
  have yh3 : (x1 != 0) = true := by simp [h3]
  have Hh3 : Hid _ := h3
  clear h3
  have hb1 : (1 : Int) < (l.length : Int) := by rw [hk, ari38]; decide
  have hm1 : 1 < l.length := by omega
  have c1 : w.cell? ⟨g, o + 1, none⟩ = some (.int .i64 x1) := by rw [← hx1]; exact h 1 hm1
  have ss0 := hall 0 hbn
  rw [hx0] at ss0
  have s0 : 0 ≤ x0 ∧ x0 ≤ 128 := by simpa [srt] using ss0
  have ss1 := hall 1 hm1
  rw [hx1] at ss1
  have s1 : 0 ≤ x1 ∧ x1 ≤ 128 := by simpa [srt] using ss1
  have e1 : IntKind.i64.wrap (x0 + x1) = x0 + x1 := by rw [IntKind.wrap_i64]; omega
  have e2 : wrap64 (x0 + x1) = x0 + x1 := by rw [← wrap_eq64]; exact e1
  obtain ⟨E, hE⟩ : ∃ E, E = wdF (x0 + x1) := ⟨_, rfl⟩
  have HW : Hid (∀ wx, Calls Tryz.prog 90 #[.int .i64 (x0 + x1)] wx fun e w' => e = .returned (.tuple #[.int .i64 E.1, .int .i64 E.2]) ∧ w' = wx) := fun wx => by rw [hE]; exact wide_any _ wx
  rw [← hE]
  clear hE ss0 ss1 s0 s1 hx1
  obtain ⟨n, hn⟩ : ∃ n, n = l.length := ⟨_, rfl⟩
  have HA : Hid (∀ wx, Calls Tryz.prog 32 #[.int .i64 38] wx fun e w' => e = .returned (.int .i64 (n : Int)) ∧ w' = wx) := fun wx => by rw [hn, hk]; exact refarity_any _ wx
  have HN : Hid _ := hn
  have z3 : ¬ (n : Int) < 1 := by omega
  rw [← hn] at hbx hbn hl hb1 hm1 ⊢
  have zn : ((n : Int) == (n : Int)) = true := by simp
  have yn : ((n : Int) != (n : Int)) = false := by simp
  clear h hall hk h1 hn hx0
  go_enter Tryz.func40, Tryz.ntmps40
  go_wp2_with fail
  refine (HA.out _).mono ?_
  rintro e wz ⟨rfl, hq⟩
  rw [hq]
  clear hq wz
  go_wp2_with fail
  go_loop [11] (fun i => ∃ k : Nat, k ≤ n ∧ i = .int .i64 (k : Int)) (fun i => n - (intOf i).toNat)
  case atStart => exact ⟨0, Nat.zero_le _, rfl⟩
  case round =>
    obtain ⟨k, hk, rfl⟩ := hrel
    by_cases hlt : k < n
    · obtain ⟨s, hs⟩ : ∃ s, s = l.getD k 0 := ⟨_, rfl⟩
      have hck : w.cell? ⟨g, o + k, none⟩ = some (.int .i64 s) := by rw [hs]; exact HC.out k (by rw [← HN.out]; exact hlt)
      have HI : Hid (∀ wx, Calls Tryz.prog 46 #[.int .i64 s] wx fun e w' => e = .returned (.bool true) ∧ w' = wx) := fun wx => by have := refIs_any s wx; rw [hs, HALL.out k (by rw [← HN.out]; exact hlt)] at this; rw [hs]; exact this
      clear hs
      go_wp2_with fail
      refine (HI.out _).mono ?_
      rintro e wz ⟨rfl, hq⟩
      rw [hq]
      clear hq wz
      go_wp2_with fail
      go_round
      case rel => exact ⟨k + 1, by omega, by go_num⟩
      case measure => simp [intOf]; omega
    · obtain rfl : k = n := by omega
      go_wp2_with fail
      go_region_held3 (fun x => x.cell? ⟨g, o, none⟩ = some (.int .i64 x0) ∧ x.cell? ⟨g, o + 1, none⟩ = some (.int .i64 x1) ∧ Below w.heap.size w x)
        ((first | assumption | exact ⟨by simp [go_sem, c0], by simp [go_sem, c1], (Below.refl _ _).drew⟩))
        ((go_at_call 90; refine (HW.out _).mono ?_; rintro e wz ⟨rfl, hq⟩; subst hq))
      obtain ⟨-, -, hBq⟩ := ‹_ ∧ _ ∧ _›
      go_wp2_with fail
      refine bodyPost_ret (v := .tuple #[.int .i64 E.1, .int .i64 E.2]) (by simp [results, Tryz.results40, go_sem]) rfl ?_
      exact ⟨rfl, hBq⟩
theorem rs_bad {op p q : Int} {w : World} {g o c : Nat} {l : List Int} (h : Li w g o l) (hl : l.length ≤ 1000) (hk : (l.length : Int) = ari op) (h1 : 1 ≤ ari op) (hall : l.all srt = false) :
    Rt 40 #[.int .i64 op, .int .i64 p, .int .i64 q, .slice (some ⟨g, o, none⟩) l.length c] w (.tuple #[.int .i64 0, .int .i64 30]) := by
  have HC : Hid _ := h
  have HB : Hid _ := hall
  have hbx : (0 : Int) < (l.length : Int) := by omega
  have hbn : 0 < l.length := by omega
  obtain ⟨n, hn⟩ : ∃ n, n = l.length := ⟨_, rfl⟩
  have HA : Hid (∀ wx, Calls Tryz.prog 32 #[.int .i64 op] wx fun e w' => e = .returned (.int .i64 (n : Int)) ∧ w' = wx) := fun wx => by rw [hn, hk]; exact refarity_any _ wx
  have HN : Hid _ := hn
  have z3 : ¬ (n : Int) < 1 := by omega
  rw [← hn] at hbx hbn hl ⊢
  have zn : ((n : Int) == (n : Int)) = true := by simp
  have yn : ((n : Int) != (n : Int)) = false := by simp
  clear h hall hk h1 hn
  go_enter Tryz.func40, Tryz.ntmps40
  go_wp2_with fail
  refine (HA.out _).mono ?_
  rintro e wz ⟨rfl, hq⟩
  rw [hq]
  clear hq wz
  go_wp2_with fail
  go_loop [11] (fun i => ∃ k : Nat, k ≤ n ∧ i = .int .i64 (k : Int) ∧ ∀ j, j < k → srt (l.getD j 0) = true) (fun i => n - (intOf i).toNat)
  case atStart => exact ⟨0, Nat.zero_le _, rfl, fun j hj => by omega⟩
  case round =>
    obtain ⟨k, hk, rfl, hz⟩ := hrel
    have HZ : Hid _ := hz
    clear hz
    by_cases hlt : k < n
    · obtain ⟨s, hs⟩ : ∃ s, s = l.getD k 0 := ⟨_, rfl⟩
      have hck : w.cell? ⟨g, o + k, none⟩ = some (.int .i64 s) := by rw [hs]; exact HC.out k (by rw [← HN.out]; exact hlt)
      obtain ⟨b, hb⟩ : ∃ b, b = srt s := ⟨_, rfl⟩
      have HI : Hid (∀ wx, Calls Tryz.prog 46 #[.int .i64 s] wx fun e w' => e = .returned (.bool b) ∧ w' = wx) := fun wx => by rw [hb]; exact refIs_any s wx
      have HBB : Hid (srt (l.getD k 0) = b) := by unfold Hid; rw [hb, hs]
      clear hs hb
      cases b
      · go_wp2_with fail
        refine (HI.out _).mono ?_
        rintro e wz ⟨rfl, hq⟩
        rw [hq]
        clear hq wz
        go_wp2_with fail
        refine bodyPost_ret (v := .tuple #[.int .i64 0, .int .i64 30]) (by simp [results, Tryz.results40, go_sem]) rfl ?_
        exact ⟨rfl, Below.refl _ _⟩
      · go_wp2_with fail
        refine (HI.out _).mono ?_
        rintro e wz ⟨rfl, hq⟩
        rw [hq]
        clear hq wz
        go_wp2_with fail
        go_round
        case rel =>
          refine ⟨k + 1, by omega, by go_num, fun j hj => ?_⟩
          by_cases e : j = k
          · subst e; exact HBB.out
          · exact HZ.out j (by omega)
        case measure => simp [intOf]; omega
    · obtain rfl : k = n := by omega
      exact absurd (all_yes (f := srt) (fun j hj => HZ.out j (by rw [HN.out]; exact hj))) (by rw [HB.out]; decide)
end Go.Proofs.YtnflphhckgeneaaGreat
