/- TraceShifts: the walk. -/
import Derived.Test.YthdgmkjjpmigeabTS0
namespace Go.Proofs.Ythdgmkjjpmigeab
open Go.RowKit
set_option linter.unusedSimpArgs false
set_option linter.unusedVariables false

abbrev Bl (L : List (List Int)) : Prop := L.length ≤ 70368744177664 ∧ ∀ c ∈ L, c.length ≤ 70368744177664
theorem lgt.sum {C : List (List Int)} (h : lgt C) : C.length + (C.map List.length).sum ≤ 1000 := by have := h.1; omega
/-- What was written has only numbers. -/
theorem enc_in {C : List (List Int)} (h : (encF C).2 = 0) : ∀ s ∈ C, ∀ x ∈ s, 0 ≤ x ∧ x ≤ 2147483647 := by
  have h0 : C.any (fun s => s.any noN) = false := by
    unfold encF at h
    split at h
    · cases h
    · next e => simpa using e
  intro s hs x hx
  have h1 := List.any_eq_false.1 h0 s hs
  rw [Bool.not_eq_true] at h1
  have h2 := List.any_eq_false.1 h1 x hx
  rw [Bool.not_eq_true] at h2
  exact (noN_iff x).1 h2
theorem enc_len {C : List (List Int)} (hs : C.length + (C.map List.length).sum ≤ 1000) : (encF C).1.length ≤ 6000 := by
  unfold encF
  split
  · simp
  · simp only [List.length_append, be4_len, flatb_len]
    have : hd.length = 4 := rfl
    omega
theorem map_sums (f : Int → Int) (C : List (List Int)) : (C.map fun F => F.map f).length + ((C.map fun F => F.map f).map List.length).sum = C.length + (C.map List.length).sum := by
  simp [List.map_map, Function.comp_def]
def shF (g m : Nat) (F : List Int) (j : Nat) : List Int := (F.take j).map (sh g m)
def shG (g m : Nat) (L : List (List Int)) (k : Nat) : List (List Int) := (L.take k).map fun F => F.map (sh g m)
theorem shF_end (g m : Nat) (F : List Int) : shF g m F F.length = F.map (sh g m) := by unfold shF; rw [List.take_length]
theorem shG_end (g m : Nat) (L : List (List Int)) : shG g m L L.length = L.map fun F => F.map (sh g m) := by unfold shG; rw [List.take_length]
theorem shF_len (g m : Nat) (F : List Int) (j : Nat) : (shF g m F j).length ≤ j := by unfold shF; rw [List.length_map, List.length_take]; omega
theorem shG_len (g m : Nat) (L : List (List Int)) (j : Nat) : (shG g m L j).length ≤ j := by unfold shG; rw [List.length_map, List.length_take]; omega
theorem shF_step {g m : Nat} {F : List Int} {j : Nat} {x : Int} (h : F[j]? = some x) : shF g m F (j + 1) = shF g m F j ++ [sh g m x] := by unfold shF; rw [List.take_add_one, h]; simp
theorem shG_step {g m : Nat} {L : List (List Int)} {j : Nat} {F : List Int} (h : L[j]? = some F) : shG g m L (j + 1) = shG g m L j ++ [F.map (sh g m)] := by unfold shG; rw [List.take_add_one, h]; simp
end Go.Proofs.Ythdgmkjjpmigeab
