/- Contracts (the document's clauses): Set. -/
import Derived.Test.YthdgmkjjpmigeabTV1
namespace Go.Proofs.Ythdgmkjjpmigeab
open Go.RowKit
set_option linter.unusedSimpArgs false
set_option linter.unusedVariables false

theorem isl {w : World} {B : Nat} {u : Value} {l : List Int} (h : Is' w B u l) : ∃ a c, u = .slice a l.length c ∧ (l = [] ∨ ∃ r, a = some ⟨r, 0, none⟩ ∧ B ≤ r ∧ r < w.heap.size ∧ Li w r 0 l) := by
  by_cases hl : l = []
  · subst hl
    rcases h.2 with ⟨e, -⟩ | ⟨g, c, _, e, -⟩
    · exact ⟨_, _, e, Or.inl rfl⟩
    · exact ⟨_, _, e, Or.inl rfl⟩
  · obtain ⟨r, cap, e, hb, -, hL⟩ := h.li hl
    refine ⟨_, _, e, Or.inr ⟨r, rfl, hb, ?_, hL⟩⟩
    exact (World.ownsRow.lt h r (by rw [e]; rfl)).2
/-- A list with a place at j. -/
def shL (L : List Int) (j : Nat) (y : Int) : List Int := L.take j ++ y :: L.drop j
theorem shL_len {L : List Int} {j : Nat} (y : Int) (hj : j ≤ L.length) : (shL L j y).length = L.length + 1 := by
  unfold shL
  rw [List.length_append, List.length_cons, List.length_take, List.length_drop]
  omega
theorem sh_start (L : List Int) (y : Int) : L ++ [y] = shL L L.length y := by
  unfold shL
  rw [List.take_length, List.drop_length]
theorem sh_put {L : List Int} {q : Nat} (y x : Int) (hq : q ≤ L.length) : (shL L q y).set q x = shL L q x := by
  unfold shL
  have h1 : (L.take q).length = q := by rw [List.length_take]; omega
  rw [List.set_append_right _ _ (by omega), h1, Nat.sub_self]
  rfl
theorem sh_step {L : List Int} {j : Nat} {y z : Int} (hz : L[j]? = some z) : (shL L (j + 1) y).set (j + 1) z = shL L j z := by
  have hj : j < L.length := (List.getElem?_eq_some_iff.1 hz).1
  rw [sh_put y z (by omega)]
  unfold shL
  rw [List.take_add_one, hz, Option.toList_some, List.append_assoc]
  congr 1
  rw [List.drop_eq_getElem_cons hj]
  have e : L[j] = z := by rw [List.getElem?_eq_getElem hj] at hz; injection hz
  rw [e]
  rfl
theorem sh_get {L : List Int} {j : Nat} {y z : Int} (hz : L[j]? = some z) : (shL L (j + 1) y).getD j 0 = z := by
  have hj : j < L.length := (List.getElem?_eq_some_iff.1 hz).1
  unfold shL
  rw [List.getD_eq_getElem?_getD, List.getElem?_append_left (by rw [List.length_take]; omega), List.getElem?_take_of_lt (by omega), hz]
  rfl
theorem setF_le (c : List Int) : (setF c).length ≤ c.length := by
  have key : ∀ (c a : List Int), (c.foldl (fun a x => insZ x a) a).length ≤ c.length + a.length := fun c => by
    induction c with
    | nil => intro a; simp
    | cons x r ih =>
      intro a
      have := ih (insZ x a)
      have := insZ_le (x := x) (l := a)
      rw [List.foldl_cons, List.length_cons]
      omega
  have := key c []
  unfold setF
  simpa using this
end Go.Proofs.Ythdgmkjjpmigeab
