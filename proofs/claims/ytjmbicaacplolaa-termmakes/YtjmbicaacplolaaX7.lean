/- Contracts (terms): the sort that is answered, the others. -/
import Derived.Deep.RegionHeld3
import Derived.Test.YtjmbicaacplolaaX6
namespace Go.Proofs.Ytjmbicaacplolaa
open Go.RowKit
set_option linter.unusedSimpArgs false
set_option linter.unusedVariables false

set_option maxHeartbeats 800000 in
theorem answered_44 {w : World} {g o c n : Nat} {p q s0 : Int} (hc0 : w.cell? ⟨g, o, none⟩ = some (.int .i64 s0)) (hn : 1 ≤ n) (a : 0 ≤ p) (b : 0 ≤ s0) (d : s0 ≤ 128) :
    Calls Try.prog 38 #[.int .i64 44, .int .i64 p, .int .i64 q, .slice (some ⟨g, o, none⟩) n c] w fun e w' => e = .returned (.int .i64 (s0 * min p 129)) ∧ w' = w := by
  have hI : (0 : Int) < (n : Int) := by omega
  obtain ⟨f, hf⟩ : ∃ f, f = min p 129 := ⟨_, rfl⟩
  have f0 : 0 ≤ f ∧ f ≤ 129 := by omega
  rw [← hf]
  have m0 : 0 ≤ s0 * f := Int.mul_nonneg b f0.1
  have m1 : s0 * f ≤ 128 * 129 := Int.mul_le_mul d f0.2 f0.1 (by decide)
  have e1 : IntKind.i64.wrap (s0 * f) = s0 * f := by rw [IntKind.wrap_i64]; omega
  by_cases h : p ≤ 129
  · obtain rfl : f = p := by omega
    clear hf m0 m1
    go_enter Try.func38, Try.ntmps38
    go_wp2
    all_goals
      go_ret
      exact ⟨rfl, rfl⟩
  · obtain rfl : f = 129 := by omega
    clear hf m0 m1
    go_enter Try.func38, Try.ntmps38
    go_wp2
    all_goals
      go_ret
      exact ⟨rfl, rfl⟩

set_option maxHeartbeats 800000 in
theorem answered_9 {w : World} {g o c n : Nat} {p q s1 : Int} (hc1 : w.cell? ⟨g, o + 1, none⟩ = some (.int .i64 s1)) (hn : 2 ≤ n) :
    Calls Try.prog 38 #[.int .i64 9, .int .i64 p, .int .i64 q, .slice (some ⟨g, o, none⟩) n c] w fun e w' => e = .returned (.int .i64 s1) ∧ w' = w := by
  have hI : (1 : Int) < (n : Int) := by omega
  have hJ : 1 < n := by omega
  go_enter Try.func38, Try.ntmps38
  go_wp2
  all_goals
    go_ret
    exact ⟨rfl, rfl⟩

set_option maxHeartbeats 1600000 in
theorem answered_else {op : Int} {w : World} {g o c n : Nat} {p q s0 : Int} (hop : op < 8 ∨ (9 < op ∧ op < 29) ∨ op = 42 ∨ op = 43) (hc0 : w.cell? ⟨g, o, none⟩ = some (.int .i64 s0)) (hn : 1 ≤ n) :
    Calls Try.prog 38 #[.int .i64 op, .int .i64 p, .int .i64 q, .slice (some ⟨g, o, none⟩) n c] w fun e w' => e = .returned (.int .i64 s0) ∧ w' = w := by
  have hI : (0 : Int) < (n : Int) := by omega
  have q8 : (op == 8) = false := by simp; omega
  have q9 : (op == 9) = false := by simp; omega
  have q29 : (op == 29) = false := by simp; omega
  have q30 : (op == 30) = false := by simp; omega
  have q31 : (op == 31) = false := by simp; omega
  have q32 : (op == 32) = false := by simp; omega
  have q33 : (op == 33) = false := by simp; omega
  have q34 : (op == 34) = false := by simp; omega
  have q35 : (op == 35) = false := by simp; omega
  have q36 : (op == 36) = false := by simp; omega
  have q37 : (op == 37) = false := by simp; omega
  have q38 : (op == 38) = false := by simp; omega
  have q39 : (op == 39) = false := by simp; omega
  have q40 : (op == 40) = false := by simp; omega
  have q41 : (op == 41) = false := by simp; omega
  have q44 : (op == 44) = false := by simp; omega
  clear hop
  go_enter Try.func38, Try.ntmps38
  go_wp2
  all_goals
    go_ret
    exact ⟨rfl, rfl⟩

set_option maxHeartbeats 1600000 in
theorem answered_38 {w : World} {g o c n : Nat} {p q s0 s1 : Int} (hc0 : w.cell? ⟨g, o, none⟩ = some (.int .i64 s0)) (hc1 : w.cell? ⟨g, o + 1, none⟩ = some (.int .i64 s1)) (hn : 2 ≤ n) (a0 : 0 ≤ s0) (a1 : s0 ≤ 128) (b0 : 0 ≤ s1) (b1 : s1 ≤ 128) :
    Calls Try.prog 38 #[.int .i64 38, .int .i64 p, .int .i64 q, .slice (some ⟨g, o, none⟩) n c] w fun e w' => e = .returned (.int .i64 (s0 + s1)) ∧ Below w.heap.size w w' := by
  have hI : (1 : Int) < (n : Int) := by omega
  have hI0 : (0 : Int) < (n : Int) := by omega
  have hJ : 1 < n := by omega
  have hJ0 : 0 < n := by omega
  have e1 : IntKind.i64.wrap (s0 + s1) = s0 + s1 := by rw [IntKind.wrap_i64]; omega
  by_cases h : p ≤ 129
  all_goals
    go_enter Try.func38, Try.ntmps38
    go_wp2_with fail
  all_goals
    go_region_held3 (fun x => x.cell? ⟨g, o, none⟩ = some (.int .i64 s0) ∧ x.cell? ⟨g, o + 1, none⟩ = some (.int .i64 s1))
      ((refine ⟨?_, ?_⟩ <;> simp [go_sem, hc0, hc1]))
      (fail)
    go_wp2_with fail
    go_ret
    exact ⟨rfl, (Below.refl _ _).drew⟩
end Go.Proofs.Ytjmbicaacplolaa
