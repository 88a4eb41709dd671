/- Contracts (terms): whether numbers fit an operator. -/
import Derived.Test.YtjmbicaacplolaaX1
namespace Go.Proofs.Ytjmbicaacplolaa
open Go.RowKit
set_option linter.unusedSimpArgs false
set_option linter.unusedVariables false

/-- Which numbers may stand with an operator. -/
def nft (op p q w : Int) : Bool := if op = 39 then decide (p < w) && decide (q ≤ p) && decide (0 ≤ q) else if op = 40 ∨ op = 41 ∨ op = 42 ∨ op = 43 then decide (0 ≤ p) && decide (q = 0) else if op = 44 then decide (1 ≤ p) && decide (q = 0) else decide (p = 0) && decide (q = 0)
set_option maxHeartbeats 3200000 in
theorem numbersFit_any (op p q v : Int) (w : World) :
    Calls Try.prog 37 #[.int .i64 op, .int .i64 p, .int .i64 q, .int .i64 v] w fun e w' => e = .returned (.bool (nft op p q v)) ∧ w' = w := by
  by_cases h : op = 39 ∨ op = 40 ∨ op = 41 ∨ op = 42 ∨ op = 43 ∨ op = 44
  · rcases h with rfl | rfl | rfl | rfl | rfl | rfl
    · by_cases a : p < v
      · by_cases b : q ≤ p
        · by_cases d : 0 ≤ q
          · have e : nft 39 p q v = true := by simp [nft, a, b, d]
            rw [e]
            clear e
            go_enter Try.func37, Try.ntmps37
            go_wp2
            go_ret
            exact ⟨rfl, rfl⟩
          · have e : nft 39 p q v = false := by simp [nft, d] <;> (try intros) <;> omega
            rw [e]
            clear e
            go_enter Try.func37, Try.ntmps37
            go_wp2
            go_ret
            exact ⟨rfl, rfl⟩
        · have e : nft 39 p q v = false := by simp [nft, b] <;> (try intros) <;> omega
          rw [e]
          clear e
          go_enter Try.func37, Try.ntmps37
          go_wp2
          go_ret
          exact ⟨rfl, rfl⟩
      · have e : nft 39 p q v = false := by simp [nft, a] <;> (try intros) <;> omega
        rw [e]
        clear e
        go_enter Try.func37, Try.ntmps37
        go_wp2
        go_ret
        exact ⟨rfl, rfl⟩
    · by_cases a : 0 ≤ p
      · by_cases b : q = 0
        · have b2 : (q == 0) = true := by simp [b]
          have e : nft 40 p q v = true := by simp [nft, a, b]
          rw [e]
          clear e
          go_enter Try.func37, Try.ntmps37
          go_wp2
          go_ret
          exact ⟨rfl, rfl⟩
        · have b2 : (q == 0) = false := by simp [b]
          have e : nft 40 p q v = false := by simp [nft, b] <;> (try intros) <;> omega
          rw [e]
          clear e
          go_enter Try.func37, Try.ntmps37
          go_wp2
          go_ret
          exact ⟨rfl, rfl⟩
      · have e : nft 40 p q v = false := by simp [nft, a] <;> (try intros) <;> omega
        rw [e]
        clear e
        go_enter Try.func37, Try.ntmps37
        go_wp2
        go_ret
        exact ⟨rfl, rfl⟩
    · by_cases a : 0 ≤ p
      · by_cases b : q = 0
        · have b2 : (q == 0) = true := by simp [b]
          have e : nft 41 p q v = true := by simp [nft, a, b]
          rw [e]
          clear e
          go_enter Try.func37, Try.ntmps37
          go_wp2
          go_ret
          exact ⟨rfl, rfl⟩
        · have b2 : (q == 0) = false := by simp [b]
          have e : nft 41 p q v = false := by simp [nft, b] <;> (try intros) <;> omega
          rw [e]
          clear e
          go_enter Try.func37, Try.ntmps37
          go_wp2
          go_ret
          exact ⟨rfl, rfl⟩
      · have e : nft 41 p q v = false := by simp [nft, a] <;> (try intros) <;> omega
        rw [e]
        clear e
        go_enter Try.func37, Try.ntmps37
        go_wp2
        go_ret
        exact ⟨rfl, rfl⟩
    · by_cases a : 0 ≤ p
      · by_cases b : q = 0
        · have b2 : (q == 0) = true := by simp [b]
          have e : nft 42 p q v = true := by simp [nft, a, b]
          rw [e]
          clear e
          go_enter Try.func37, Try.ntmps37
          go_wp2
          go_ret
          exact ⟨rfl, rfl⟩
        · have b2 : (q == 0) = false := by simp [b]
          have e : nft 42 p q v = false := by simp [nft, b] <;> (try intros) <;> omega
          rw [e]
          clear e
          go_enter Try.func37, Try.ntmps37
          go_wp2
          go_ret
          exact ⟨rfl, rfl⟩
      · have e : nft 42 p q v = false := by simp [nft, a] <;> (try intros) <;> omega
        rw [e]
        clear e
        go_enter Try.func37, Try.ntmps37
        go_wp2
        go_ret
        exact ⟨rfl, rfl⟩
    · by_cases a : 0 ≤ p
      · by_cases b : q = 0
        · have b2 : (q == 0) = true := by simp [b]
          have e : nft 43 p q v = true := by simp [nft, a, b]
          rw [e]
          clear e
          go_enter Try.func37, Try.ntmps37
          go_wp2
          go_ret
          exact ⟨rfl, rfl⟩
        · have b2 : (q == 0) = false := by simp [b]
          have e : nft 43 p q v = false := by simp [nft, b] <;> (try intros) <;> omega
          rw [e]
          clear e
          go_enter Try.func37, Try.ntmps37
          go_wp2
          go_ret
          exact ⟨rfl, rfl⟩
      · have e : nft 43 p q v = false := by simp [nft, a] <;> (try intros) <;> omega
        rw [e]
        clear e
        go_enter Try.func37, Try.ntmps37
        go_wp2
        go_ret
        exact ⟨rfl, rfl⟩
    · by_cases a : 1 ≤ p
      · by_cases b : q = 0
        · have b2 : (q == 0) = true := by simp [b]
          have e : nft 44 p q v = true := by simp [nft, a, b]
          rw [e]
          clear e
          go_enter Try.func37, Try.ntmps37
          go_wp2
          go_ret
          exact ⟨rfl, rfl⟩
        · have b2 : (q == 0) = false := by simp [b]
          have e : nft 44 p q v = false := by simp [nft, b] <;> (try intros) <;> omega
          rw [e]
          clear e
          go_enter Try.func37, Try.ntmps37
          go_wp2
          go_ret
          exact ⟨rfl, rfl⟩
      · have e : nft 44 p q v = false := by simp [nft, a] <;> (try intros) <;> omega
        rw [e]
        clear e
        go_enter Try.func37, Try.ntmps37
        go_wp2
        go_ret
        exact ⟨rfl, rfl⟩
  · have h39 : (op == 39) = false := by simp; omega
    have h40 : (op == 40) = false := by simp; omega
    have h41 : (op == 41) = false := by simp; omega
    have h42 : (op == 42) = false := by simp; omega
    have h43 : (op == 43) = false := by simp; omega
    have h44 : (op == 44) = false := by simp; omega
    have g39 : ¬ op = 39 := by omega
    have g4 : ¬ (op = 40 ∨ op = 41 ∨ op = 42 ∨ op = 43) := by omega
    have g44 : ¬ op = 44 := by omega
    clear h
    by_cases a : p = 0
    · have a2 : (p == 0) = true := by simp [a]
      by_cases b : q = 0
      · have b2 : (q == 0) = true := by simp [b]
        have e : nft op p q v = true := by unfold nft; rw [if_neg g39, if_neg g4, if_neg g44]; simp [a, b]
        rw [e]
        clear e g4 a b g39 g44
        go_enter Try.func37, Try.ntmps37
        go_wp2
        go_ret
        exact ⟨rfl, rfl⟩
      · have b2 : (q == 0) = false := by simp [b]
        have e : nft op p q v = false := by unfold nft; rw [if_neg g39, if_neg g4, if_neg g44]; simp [b]
        rw [e]
        clear e g4 a b g39 g44
        go_enter Try.func37, Try.ntmps37
        go_wp2
        go_ret
        exact ⟨rfl, rfl⟩
    · have a2 : (p == 0) = false := by simp [a]
      have e : nft op p q v = false := by unfold nft; rw [if_neg g39, if_neg g4, if_neg g44]; simp [a]
      rw [e]
      clear e g4 a g39 g44
      go_enter Try.func37, Try.ntmps37
      go_wp2
      go_ret
      exact ⟨rfl, rfl⟩
end Go.Proofs.Ytjmbicaacplolaa
