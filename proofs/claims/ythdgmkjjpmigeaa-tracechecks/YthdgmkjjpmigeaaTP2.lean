/- Plain: more clauses behind the others (shift). -/
import Derived.Test.YthdgmkjjpmigeaaTR19
import Derived.Test.YthdgmkjjpmigeaaTP1
namespace Go.Proofs.Ythdgmkjjpmigeaa
open Go.RowKit
set_option linter.unusedSimpArgs false
set_option linter.unusedVariables false

/-- What Check says of steps. -/
def endF (G L : List (List Int)) : Int :=
  if (derF G L).2 ≠ 0 then (derF G L).2
  else match (derF G L).1.getLast? with
    | some [] => 0
    | _ => 122
theorem chk_end {G : List (List Int)} {b : List Int} {L : List (List Int)} (h : decF b = (L, 0)) : chkF G b = endF G L := by
  unfold chkF rfF endF
  rw [h]
  simp only [ne_eq, not_true_eq_false, if_false]
  split
  · rfl
  · cases (derF G L).1.getLast? with
    | none => rfl
    | some l => cases l <;> rfl
theorem chk_enc {G C : List (List Int)} (hs : C.length + (C.map List.length).sum ≤ 3000) (h : (encF C).2 = 0) : chkF G (encF C).1 = endF G C := chk_end (dec_enc hs h)
/-- A step's number behind m more clauses. -/
def sh (g m : Nat) (x : Int) : Int := if (g : Int) ≤ x then x + (m : Int) else x
theorem clF_sh (G M D : List (List Int)) (x : Int) : clF (G ++ M) D (sh G.length M.length x) = clF G D x := by
  unfold sh
  by_cases h : (G.length : Int) ≤ x
  · rw [if_pos h]
    unfold clF
    by_cases h2 : (G.length : Int) + (D.length : Int) ≤ x
    · rw [if_pos (Or.inr h2), if_pos (Or.inr (by rw [List.length_append]; omega))]
    · rw [if_neg (by rw [List.length_append]; omega), if_pos (by rw [List.length_append]; omega), if_neg (by omega), if_pos h]
      congr 1
      rw [List.length_append]; omega
  · rw [if_neg h]
    unfold clF
    by_cases h2 : x < 0
    · rw [if_pos (Or.inl h2), if_pos (Or.inl h2)]
    · rw [if_neg (by rw [List.length_append]; omega), if_neg (by rw [List.length_append]; omega), if_neg (by omega), if_neg h, List.getElem?_append_left (by omega)]
theorem goF_sh (G M D : List (List Int)) : ∀ (F cur : List Int) (b : Bool), goF (G ++ M) D cur b (F.map (sh G.length M.length)) = goF G D cur b F
  | [], cur, b => rfl
  | n :: F, cur, b => by
    rw [List.map_cons, goF, goF, clF_sh]
    cases clF G D n with
    | none => rfl
    | some c =>
      simp only [goF_sh G M D F]
theorem resF_sh (G M D : List (List Int)) (F : List Int) : resF (G ++ M) D (F.map (sh G.length M.length)) = resF G D F := by
  unfold resF
  by_cases h : F = []
  · subst h; rfl
  · rw [if_neg h, if_neg (by simpa using h), goF_sh]
theorem derL_sh (G M : List (List Int)) : ∀ (L D : List (List Int)), derL (G ++ M) D (L.map fun F => F.map (sh G.length M.length)) = derL G D L
  | [], D => rfl
  | F :: L, D => by
    rw [List.map_cons, derL, derL, resF_sh]
    cases resF G D F with
    | none => rfl
    | some r => simp only [derL_sh G M L]
theorem endF_sh (G M L : List (List Int)) : endF (G ++ M) (L.map fun F => F.map (sh G.length M.length)) = endF G L := by
  have e : derF (G ++ M) (L.map fun F => F.map (sh G.length M.length)) = derF G L := by unfold derF; rw [derL_sh]
  unfold endF
  rw [e]
end Go.Proofs.Ythdgmkjjpmigeaa
