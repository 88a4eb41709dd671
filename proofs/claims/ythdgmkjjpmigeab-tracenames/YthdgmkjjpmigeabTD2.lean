/- Contracts (the document's clauses): resolve. -/
import Derived.Test.YthdgmkjjpmigeabTD1
namespace Go.Proofs.Ythdgmkjjpmigeab
open Go.RowKit
set_option linter.unusedSimpArgs false
set_option linter.unusedVariables false

/-- The literals of c whose opposites d has. -/
def clsh (d c : List Int) : List Int := c.filter fun x => decide (-x ∈ d)
/-- What resolve answers. -/
def resD (c d : List Int) : Option (List Int) :=
  if (clsh d c).length = 1 then some (setF (c.filter (fun y => decide (y ≠ (clsh d c).getLastD 0)) ++ d.filter (fun y => decide (y ≠ -(clsh d c).getLastD 0)))) else none
def clK (d c : List Int) (k : Nat) : List Int := clsh d (c.take k)
def fiK (c : List Int) (x : Int) (k : Nat) : List Int := (c.take k).filter fun y => decide (y ≠ x)
theorem clK_end (d c : List Int) : clK d c c.length = clsh d c := by unfold clK; rw [List.take_length]
theorem fiK_end (c : List Int) (x : Int) : fiK c x c.length = c.filter (fun y => decide (y ≠ x)) := by unfold fiK; rw [List.take_length]
theorem clK_yes {d c : List Int} {k : Nat} {x : Int} (h : c[k]? = some x) (hx : -x ∈ d) : clK d c (k + 1) = clK d c k ++ [x] := by
  unfold clK clsh; rw [List.take_add_one, h, List.filter_append]; simp [hx]
theorem clK_no {d c : List Int} {k : Nat} {x : Int} (h : c[k]? = some x) (hx : ¬ -x ∈ d) : clK d c (k + 1) = clK d c k := by
  unfold clK clsh; rw [List.take_add_one, h, List.filter_append]; simp [hx]
theorem fiK_yes {c : List Int} {k : Nat} {x y : Int} (h : c[k]? = some y) (hx : y ≠ x) : fiK c x (k + 1) = fiK c x k ++ [y] := by
  unfold fiK; rw [List.take_add_one, h, List.filter_append]; simp [hx]
theorem fiK_no {c : List Int} {k : Nat} {x y : Int} (h : c[k]? = some y) (hx : y = x) : fiK c x (k + 1) = fiK c x k := by
  unfold fiK; rw [List.take_add_one, h, List.filter_append]; simp [hx]
theorem clK_len (d c : List Int) (k : Nat) : (clK d c k).length ≤ k := by
  unfold clK clsh; have := List.length_filter_le (fun x => decide (-x ∈ d)) (c.take k); rw [List.length_take] at this; omega
theorem fiK_len (c : List Int) (x : Int) (k : Nat) : (fiK c x k).length ≤ k := by
  unfold fiK; have := List.length_filter_le (fun y => decide (y ≠ x)) (c.take k); rw [List.length_take] at this; omega
theorem IsSl.nil : IsSl (.slice none 0 0) := ⟨⟨_, _, _, rfl⟩⟩
theorem Is'.isl {w : World} {B : Nat} {v : Value} {l : List Int} (h : Is' w B v l) : IsSl v := by
  obtain ⟨a, m, k, e, -⟩ := own_sl h
  exact ⟨⟨a, m, k, e⟩⟩
theorem clsh_in {d c : List Int} {x : Int} (hx : x ∈ clsh d c) : x ∈ c := (List.mem_filter.1 hx).1
end Go.Proofs.Ythdgmkjjpmigeab
