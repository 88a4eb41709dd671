/- Contracts (terms): an operator's sort, as the program tells it, out of its parts. -/
import Derived.Test.YtjmbicaacplolaaX7
namespace Go.Proofs.Ytjmbicaacplolaa
open Go.RowKit
set_option linter.unusedSimpArgs false
set_option linter.unusedVariables false

set_option maxHeartbeats 800000 in
theorem sort_noop {op p q : Int} {a : Option Addr} {n c : Nat} (hn : n ≤ 1000) (h : ari op < 1) (w : World) :
    Calls Try.prog 24 #[.int .i64 op, .int .i64 p, .int .i64 q, .slice a n c] w fun e w' => e = .returned (.tuple #[.int .i64 0, .int .i64 32]) ∧ Below w.heap.size w w' := by
  obtain ⟨r, hr⟩ : ∃ r, r = ari op := ⟨_, rfl⟩
  have HA : Hid (∀ wx, Calls Try.prog 26 #[.int .i64 op] wx fun e w' => e = .returned (.int .i64 r) ∧ w' = wx) := fun wx => by rw [hr]; exact arity_any op wx
  rw [← hr] at h
  clear hr
  go_enter Try.func24, Try.ntmps24
  go_wp2_with fail
  refine (HA.out _).mono ?_
  rintro e wz ⟨rfl, rfl⟩
  go_wp2_with fail
  refine bodyPost_ret (v := .tuple #[.int .i64 (0), .int .i64 32]) (by simp [results, Try.results24, go_sem]) rfl ?_
  exact ⟨rfl, Below.refl _ _⟩

set_option maxHeartbeats 800000 in
theorem sort_count {op p q : Int} {a : Option Addr} {n c : Nat} (hn : n ≤ 1000) (h : 1 ≤ ari op) (hne : ¬ (n : Int) = ari op) (w : World) :
    Calls Try.prog 24 #[.int .i64 op, .int .i64 p, .int .i64 q, .slice a n c] w fun e w' => e = .returned (.tuple #[.int .i64 0, .int .i64 30]) ∧ Below w.heap.size w w' := by
  obtain ⟨r, hr⟩ : ∃ r, r = ari op := ⟨_, rfl⟩
  have HA : Hid (∀ wx, Calls Try.prog 26 #[.int .i64 op] wx fun e w' => e = .returned (.int .i64 r) ∧ w' = wx) := fun wx => by rw [hr]; exact arity_any op wx
  rw [← hr] at h hne
  have z1 : ((n : Int) == r) = false := by simp [hne]
  have z2 : ((n : Int) != r) = true := by simp [hne]
  have z3 : ¬ r < 1 := by omega
  clear hr
  go_enter Try.func24, Try.ntmps24
  go_wp2_with fail
  refine (HA.out _).mono ?_
  rintro e wz ⟨rfl, rfl⟩
  go_wp2_with fail
  refine bodyPost_ret (v := .tuple #[.int .i64 (0), .int .i64 30]) (by simp [results, Try.results24, go_sem]) rfl ?_
  exact ⟨rfl, Below.refl _ _⟩

set_option maxHeartbeats 3200000 in
theorem sort_parts {op p q s s0 : Int} {g o n c : Nat} {b1 b2 b3 : Bool} (hn : n ≤ 1000) (h1 : 1 ≤ n) (h : (n : Int) = ari op) (w : World) (hc0 : w.cell? ⟨g, o, none⟩ = some (.int .i64 s0))
    (H1 : Hid (Calls Try.prog 35 #[.slice (some ⟨g, o, none⟩) n c] w fun e w' => e = .returned (.bool b1) ∧ w' = w))
    (H2 : Hid (b1 = true → Calls Try.prog 36 #[.int .i64 op, .slice (some ⟨g, o, none⟩) n c] w fun e w' => e = .returned (.bool b2) ∧ w' = w))
    (H3 : Hid (Calls Try.prog 37 #[.int .i64 op, .int .i64 p, .int .i64 q, .int .i64 s0] w fun e w' => e = .returned (.bool b3) ∧ w' = w))
    (H4 : Hid (b1 = true → b2 = true → b3 = true → Calls Try.prog 38 #[.int .i64 op, .int .i64 p, .int .i64 q, .slice (some ⟨g, o, none⟩) n c] w fun e w' => e = .returned (.int .i64 s) ∧ Below w.heap.size w w')) :
    Calls Try.prog 24 #[.int .i64 op, .int .i64 p, .int .i64 q, .slice (some ⟨g, o, none⟩) n c] w fun e w' => (e = .returned (.tuple #[.int .i64 (if b1 && b2 && b3 && decide (s ≤ 128) then s else 0), .int .i64 (if b1 && b2 && b3 then (if s ≤ 128 then 0 else 31) else 30)])) ∧ Below w.heap.size w w' := by
  have HA : Hid (∀ wx, Calls Try.prog 26 #[.int .i64 op] wx fun e w' => e = .returned (.int .i64 (n : Int)) ∧ w' = wx) := fun wx => by rw [h]; exact arity_any op wx
  have z3 : ¬ (n : Int) < 1 := by omega
  have z4 : (0 : Int) < (n : Int) := by omega
  obtain ⟨x, hx⟩ : ∃ x : Int, x = (if b1 && b2 && b3 && decide (s ≤ 128) then s else 0) := ⟨_, rfl⟩
  obtain ⟨y, hy⟩ : ∃ y : Int, y = (if b1 && b2 && b3 then (if s ≤ 128 then 0 else 31) else 30) := ⟨_, rfl⟩
  rw [← hx, ← hy]
  have HX : Hid _ := hx
  have HY : Hid _ := hy
  clear hx hy h
  cases b1
  · clear H2 H4
    go_enter Try.func24, Try.ntmps24
    go_wp2_with fail
    refine (HA.out _).mono ?_
    rintro e wz ⟨rfl, rfl⟩
    go_wp2_with fail
    refine Calls.mono H1.out ?_
    rintro e wz ⟨rfl, rfl⟩
    go_wp2_with fail
    refine bodyPost_ret (v := .tuple #[.int .i64 (0), .int .i64 30]) (by simp [results, Try.results24, go_sem]) rfl ?_
    exact ⟨by rw [HX.out, HY.out]; rfl, Below.refl _ _⟩
  · have K2 : Hid _ := H2.out rfl
    clear H2
    cases b2
    · clear H4
      go_enter Try.func24, Try.ntmps24
      go_wp2_with fail
      refine (HA.out _).mono ?_
      rintro e wz ⟨rfl, rfl⟩
      go_wp2_with fail
      refine Calls.mono H1.out ?_
      rintro e wz ⟨rfl, rfl⟩
      go_wp2_with fail
      refine Calls.mono K2.out ?_
      rintro e wz ⟨rfl, rfl⟩
      go_wp2_with fail
      refine bodyPost_ret (v := .tuple #[.int .i64 (0), .int .i64 30]) (by simp [results, Try.results24, go_sem]) rfl ?_
      exact ⟨by rw [HX.out, HY.out]; rfl, Below.refl _ _⟩
    · cases b3
      · clear H4
        go_enter Try.func24, Try.ntmps24
        go_wp2_with fail
        refine (HA.out _).mono ?_
        rintro e wz ⟨rfl, rfl⟩
        go_wp2_with fail
        refine Calls.mono H1.out ?_
        rintro e wz ⟨rfl, rfl⟩
        go_wp2_with fail
        refine Calls.mono K2.out ?_
        rintro e wz ⟨rfl, rfl⟩
        go_wp2_with fail
        refine Calls.mono H3.out ?_
        rintro e wz ⟨rfl, rfl⟩
        go_wp2_with fail
        refine bodyPost_ret (v := .tuple #[.int .i64 (0), .int .i64 30]) (by simp [results, Try.results24, go_sem]) rfl ?_
        exact ⟨by rw [HX.out, HY.out]; rfl, Below.refl _ _⟩
      · have K4 : Hid _ := H4.out rfl rfl rfl
        clear H4
        by_cases hs : s ≤ 128
        · have hs2 : ¬ 128 < s := by omega
          go_enter Try.func24, Try.ntmps24
          go_wp2_with fail
          refine (HA.out _).mono ?_
          rintro e wz ⟨rfl, rfl⟩
          go_wp2_with fail
          refine Calls.mono H1.out ?_
          rintro e wz ⟨rfl, rfl⟩
          go_wp2_with fail
          refine Calls.mono K2.out ?_
          rintro e wz ⟨rfl, rfl⟩
          go_wp2_with fail
          refine Calls.mono H3.out ?_
          rintro e wz ⟨rfl, rfl⟩
          go_wp2_with fail
          refine Calls.mono K4.out ?_
          rintro e w4 ⟨rfl, hb4⟩
          go_wp2_with fail
          refine bodyPost_ret (v := .tuple #[.int .i64 (s), .int .i64 0]) (by simp [results, Try.results24, go_sem]) rfl ?_
          exact ⟨by rw [HX.out, HY.out, show decide (s ≤ 128) = true by simp [hs], if_pos hs]; rfl, hb4⟩
        · have hs2 : 128 < s := by omega
          go_enter Try.func24, Try.ntmps24
          go_wp2_with fail
          refine (HA.out _).mono ?_
          rintro e wz ⟨rfl, rfl⟩
          go_wp2_with fail
          refine Calls.mono H1.out ?_
          rintro e wz ⟨rfl, rfl⟩
          go_wp2_with fail
          refine Calls.mono K2.out ?_
          rintro e wz ⟨rfl, rfl⟩
          go_wp2_with fail
          refine Calls.mono H3.out ?_
          rintro e wz ⟨rfl, rfl⟩
          go_wp2_with fail
          refine Calls.mono K4.out ?_
          rintro e w4 ⟨rfl, hb4⟩
          go_wp2_with fail
          refine bodyPost_ret (v := .tuple #[.int .i64 (0), .int .i64 31]) (by simp [results, Try.results24, go_sem]) rfl ?_
          exact ⟨by rw [HX.out, HY.out, show decide (s ≤ 128) = false by simp; omega, if_neg (show ¬ s ≤ 128 by omega)]; rfl, hb4⟩
end Go.Proofs.Ytjmbicaacplolaa
