/- Contracts (terms): operators' operands; lists of sorts. -/
import Derived.Test.YtedldoobmmhloaaProg
import Derived.WalkKit
import Derived.Handy
import Derived.WalkLawsBesides
namespace Go.Proofs.Ytedldoobmmhloaa
open Go.RowKit
set_option linter.unusedSimpArgs false
set_option linter.unusedVariables false

/-- How many operands an operator has. -/
def ari (op : Int) : Int := if op < 1 ∨ 44 < op then -1 else if op = 1 ∨ op = 2 then 0 else if op = 3 ∨ op = 10 ∨ op = 11 ∨ op = 39 ∨ op = 40 ∨ op = 41 ∨ op = 42 ∨ op = 43 ∨ op = 44 then 1 else if op = 9 then 3 else 2

/-- A number that is a sort. -/
def srt (s : Int) : Bool := decide (0 ≤ s) && decide (s ≤ 128)
theorem refIs_any (s : Int) (w : World) :
    Calls Try.prog 7 #[.int .i64 s] w fun e w' => e = .returned (.bool (srt s)) ∧ w' = w := by
  by_cases h0 : 0 ≤ s
  · by_cases h1 : s ≤ 128
    · have e : srt s = true := by simp [srt, h0, h1]
      rw [e]
      go_enter Try.func7, Try.ntmps7
      go_wp2
      go_ret
      exact ⟨by simp [h1], rfl⟩
    · have e : srt s = false := by simp [srt, h1]
      rw [e]
      go_enter Try.func7, Try.ntmps7
      go_wp2
      go_ret
      exact ⟨by simp [h1], rfl⟩
  · have e : srt s = false := by simp [srt, h0]
    rw [e]
    go_enter Try.func7, Try.ntmps7
    go_wp2
    go_ret
    exact ⟨rfl, rfl⟩

/-- The cells behind g, o hold the numbers l. -/
def Li (w : World) (g o : Nat) (l : List Int) : Prop := ∀ j, j < l.length → w.cell? ⟨g, o + j, none⟩ = some (.int .i64 (l.getD j 0))
end Go.Proofs.Ytedldoobmmhloaa
