/- Contracts (terms): the sort that is answered. -/
import Derived.Deep.RegionHeld3
import Derived.Test.YtnflphhckgeneaaX4
namespace Go.Proofs.Ytnflphhckgeneaa
open Go.RowKit
set_option linter.unusedSimpArgs false
set_option linter.unusedVariables false

set_option maxHeartbeats 800000 in
theorem answered_8 {w : World} {g o c n : Nat} {p q s0 : Int} (hc0 : w.cell? ⟨g, o, none⟩ = some (.int .i64 s0)) (hn : 1 ≤ n) :
    Calls Try.prog 27 #[.int .i64 8, .int .i64 p, .int .i64 q, .slice (some ⟨g, o, none⟩) n c] w fun e w' => e = .returned (.int .i64 (0)) ∧ w' = w := by
  have hI : (0 : Int) < (n : Int) := by omega
  go_enter Try.func27, Try.ntmps27
  go_wp2
  all_goals
    go_ret
    exact ⟨rfl, rfl⟩

set_option maxHeartbeats 800000 in
theorem answered_29 {w : World} {g o c n : Nat} {p q s0 : Int} (hc0 : w.cell? ⟨g, o, none⟩ = some (.int .i64 s0)) (hn : 1 ≤ n) :
    Calls Try.prog 27 #[.int .i64 29, .int .i64 p, .int .i64 q, .slice (some ⟨g, o, none⟩) n c] w fun e w' => e = .returned (.int .i64 (0)) ∧ w' = w := by
  have hI : (0 : Int) < (n : Int) := by omega
  go_enter Try.func27, Try.ntmps27
  go_wp2
  all_goals
    go_ret
    exact ⟨rfl, rfl⟩

set_option maxHeartbeats 800000 in
theorem answered_30 {w : World} {g o c n : Nat} {p q s0 : Int} (hc0 : w.cell? ⟨g, o, none⟩ = some (.int .i64 s0)) (hn : 1 ≤ n) :
    Calls Try.prog 27 #[.int .i64 30, .int .i64 p, .int .i64 q, .slice (some ⟨g, o, none⟩) n c] w fun e w' => e = .returned (.int .i64 (0)) ∧ w' = w := by
  have hI : (0 : Int) < (n : Int) := by omega
  go_enter Try.func27, Try.ntmps27
  go_wp2
  all_goals
    go_ret
    exact ⟨rfl, rfl⟩

set_option maxHeartbeats 800000 in
theorem answered_31 {w : World} {g o c n : Nat} {p q s0 : Int} (hc0 : w.cell? ⟨g, o, none⟩ = some (.int .i64 s0)) (hn : 1 ≤ n) :
    Calls Try.prog 27 #[.int .i64 31, .int .i64 p, .int .i64 q, .slice (some ⟨g, o, none⟩) n c] w fun e w' => e = .returned (.int .i64 (0)) ∧ w' = w := by
  have hI : (0 : Int) < (n : Int) := by omega
  go_enter Try.func27, Try.ntmps27
  go_wp2
  all_goals
    go_ret
    exact ⟨rfl, rfl⟩

set_option maxHeartbeats 800000 in
theorem answered_32 {w : World} {g o c n : Nat} {p q s0 : Int} (hc0 : w.cell? ⟨g, o, none⟩ = some (.int .i64 s0)) (hn : 1 ≤ n) :
    Calls Try.prog 27 #[.int .i64 32, .int .i64 p, .int .i64 q, .slice (some ⟨g, o, none⟩) n c] w fun e w' => e = .returned (.int .i64 (0)) ∧ w' = w := by
  have hI : (0 : Int) < (n : Int) := by omega
  go_enter Try.func27, Try.ntmps27
  go_wp2
  all_goals
    go_ret
    exact ⟨rfl, rfl⟩

set_option maxHeartbeats 800000 in
theorem answered_33 {w : World} {g o c n : Nat} {p q s0 : Int} (hc0 : w.cell? ⟨g, o, none⟩ = some (.int .i64 s0)) (hn : 1 ≤ n) :
    Calls Try.prog 27 #[.int .i64 33, .int .i64 p, .int .i64 q, .slice (some ⟨g, o, none⟩) n c] w fun e w' => e = .returned (.int .i64 (0)) ∧ w' = w := by
  have hI : (0 : Int) < (n : Int) := by omega
  go_enter Try.func27, Try.ntmps27
  go_wp2
  all_goals
    go_ret
    exact ⟨rfl, rfl⟩

set_option maxHeartbeats 800000 in
theorem answered_34 {w : World} {g o c n : Nat} {p q s0 : Int} (hc0 : w.cell? ⟨g, o, none⟩ = some (.int .i64 s0)) (hn : 1 ≤ n) :
    Calls Try.prog 27 #[.int .i64 34, .int .i64 p, .int .i64 q, .slice (some ⟨g, o, none⟩) n c] w fun e w' => e = .returned (.int .i64 (0)) ∧ w' = w := by
  have hI : (0 : Int) < (n : Int) := by omega
  go_enter Try.func27, Try.ntmps27
  go_wp2
  all_goals
    go_ret
    exact ⟨rfl, rfl⟩

set_option maxHeartbeats 800000 in
theorem answered_35 {w : World} {g o c n : Nat} {p q s0 : Int} (hc0 : w.cell? ⟨g, o, none⟩ = some (.int .i64 s0)) (hn : 1 ≤ n) :
    Calls Try.prog 27 #[.int .i64 35, .int .i64 p, .int .i64 q, .slice (some ⟨g, o, none⟩) n c] w fun e w' => e = .returned (.int .i64 (0)) ∧ w' = w := by
  have hI : (0 : Int) < (n : Int) := by omega
  go_enter Try.func27, Try.ntmps27
  go_wp2
  all_goals
    go_ret
    exact ⟨rfl, rfl⟩

set_option maxHeartbeats 800000 in
theorem answered_36 {w : World} {g o c n : Nat} {p q s0 : Int} (hc0 : w.cell? ⟨g, o, none⟩ = some (.int .i64 s0)) (hn : 1 ≤ n) :
    Calls Try.prog 27 #[.int .i64 36, .int .i64 p, .int .i64 q, .slice (some ⟨g, o, none⟩) n c] w fun e w' => e = .returned (.int .i64 (0)) ∧ w' = w := by
  have hI : (0 : Int) < (n : Int) := by omega
  go_enter Try.func27, Try.ntmps27
  go_wp2
  all_goals
    go_ret
    exact ⟨rfl, rfl⟩

set_option maxHeartbeats 800000 in
theorem answered_37 {w : World} {g o c n : Nat} {p q s0 : Int} (hc0 : w.cell? ⟨g, o, none⟩ = some (.int .i64 s0)) (hn : 1 ≤ n) :
    Calls Try.prog 27 #[.int .i64 37, .int .i64 p, .int .i64 q, .slice (some ⟨g, o, none⟩) n c] w fun e w' => e = .returned (.int .i64 (1)) ∧ w' = w := by
  have hI : (0 : Int) < (n : Int) := by omega
  go_enter Try.func27, Try.ntmps27
  go_wp2
  all_goals
    go_ret
    exact ⟨rfl, rfl⟩

set_option maxHeartbeats 800000 in
theorem answered_39 {w : World} {g o c n : Nat} {p q s0 : Int} (hc0 : w.cell? ⟨g, o, none⟩ = some (.int .i64 s0)) (hn : 1 ≤ n) (a : 0 ≤ q) (b : q ≤ p) (d : p < 128) :
    Calls Try.prog 27 #[.int .i64 39, .int .i64 p, .int .i64 q, .slice (some ⟨g, o, none⟩) n c] w fun e w' => e = .returned (.int .i64 (p - q + 1)) ∧ w' = w := by
  have hI : (0 : Int) < (n : Int) := by omega
  have e1 : IntKind.i64.wrap (p - q) = p - q := by rw [IntKind.wrap_i64]; omega
  have e2 : IntKind.i64.wrap (p - q + 1) = p - q + 1 := by rw [IntKind.wrap_i64]; omega
  go_enter Try.func27, Try.ntmps27
  go_wp2
  all_goals
    go_ret
    exact ⟨rfl, rfl⟩

set_option maxHeartbeats 800000 in
theorem answered_40 {w : World} {g o c n : Nat} {p q s0 : Int} (hc0 : w.cell? ⟨g, o, none⟩ = some (.int .i64 s0)) (hn : 1 ≤ n) (a : 0 ≤ p) (b : 0 ≤ s0) (d : s0 ≤ 128) :
    Calls Try.prog 27 #[.int .i64 40, .int .i64 p, .int .i64 q, .slice (some ⟨g, o, none⟩) n c] w fun e w' => e = .returned (.int .i64 (s0 + min p 129)) ∧ w' = w := by
  have hI : (0 : Int) < (n : Int) := by omega
  obtain ⟨f, hf⟩ : ∃ f, f = min p 129 := ⟨_, rfl⟩
  have f0 : 0 ≤ f ∧ f ≤ 129 := by omega
  rw [← hf]
  have e1 : IntKind.i64.wrap (s0 + f) = s0 + f := by rw [IntKind.wrap_i64]; omega
  by_cases h : p ≤ 129
  · obtain rfl : f = p := by omega
    clear hf
    go_enter Try.func27, Try.ntmps27
    go_wp2
    all_goals
      go_ret
      exact ⟨rfl, rfl⟩
  · obtain rfl : f = 129 := by omega
    clear hf
    go_enter Try.func27, Try.ntmps27
    go_wp2
    all_goals
      go_ret
      exact ⟨rfl, rfl⟩

set_option maxHeartbeats 800000 in
theorem answered_41 {w : World} {g o c n : Nat} {p q s0 : Int} (hc0 : w.cell? ⟨g, o, none⟩ = some (.int .i64 s0)) (hn : 1 ≤ n) (a : 0 ≤ p) (b : 0 ≤ s0) (d : s0 ≤ 128) :
    Calls Try.prog 27 #[.int .i64 41, .int .i64 p, .int .i64 q, .slice (some ⟨g, o, none⟩) n c] w fun e w' => e = .returned (.int .i64 (s0 + min p 129)) ∧ w' = w := by
  have hI : (0 : Int) < (n : Int) := by omega
  obtain ⟨f, hf⟩ : ∃ f, f = min p 129 := ⟨_, rfl⟩
  have f0 : 0 ≤ f ∧ f ≤ 129 := by omega
  rw [← hf]
  have e1 : IntKind.i64.wrap (s0 + f) = s0 + f := by rw [IntKind.wrap_i64]; omega
  by_cases h : p ≤ 129
  · obtain rfl : f = p := by omega
    clear hf
    go_enter Try.func27, Try.ntmps27
    go_wp2
    all_goals
      go_ret
      exact ⟨rfl, rfl⟩
  · obtain rfl : f = 129 := by omega
    clear hf
    go_enter Try.func27, Try.ntmps27
    go_wp2
    all_goals
      go_ret
      exact ⟨rfl, rfl⟩

end Go.Proofs.Ytnflphhckgeneaa
