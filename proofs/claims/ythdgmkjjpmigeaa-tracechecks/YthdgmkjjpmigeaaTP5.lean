/- Plain: what is derived is true wherever the given clauses are. -/
import Derived.Test.YthdgmkjjpmigeaaTV1
import Derived.Test.YthdgmkjjpmigeaaTP4
namespace Go.Proofs.Ythdgmkjjpmigeaa
open Go.RowKit
set_option linter.unusedSimpArgs false
set_option linter.unusedVariables false

theorem ltT_neg {n : Nat} {x : Int} (hx : x ≠ 0) : ltT n (-x) = !ltT n x := by
  unfold ltT
  rw [Int.natAbs_neg]
  rcases (show 0 < x ∨ x < 0 by omega) with h | h
  · rw [decide_eq_false (show ¬ 0 < -x by omega), decide_eq_true h]; cases bt n (x.natAbs - 1) <;> rfl
  · rw [decide_eq_true (show 0 < -x by omega), decide_eq_false (show ¬ 0 < x by omega)]; cases bt n (x.natAbs - 1) <;> rfl
theorem tr_in {n : Nat} {c : List Int} : trF n c = true ↔ ∃ l, l ∈ c ∧ ltT n l = true := by
  unfold trF; rw [List.any_eq_true]
theorem join_first {n : Nat} {cur c : List Int} (hz : ∀ x ∈ c, okZ x = true) (h : trF n c = true) : trF n (joinL cur c 0) = true := by
  obtain ⟨l, hl, ht⟩ := tr_in.1 h
  refine tr_in.2 ⟨l, ?_, ht⟩
  unfold joinL
  rw [setF_mem, List.mem_append, List.mem_filter, List.mem_filter]
  right
  have := okZ_b (hz l hl)
  exact ⟨hl, decide_eq_true (by omega)⟩
theorem join_true {n : Nat} {cur c : List Int} {p : Int} (hp : p ≠ 0) (h1 : trF n cur = true) (h2 : trF n c = true) : trF n (joinL cur c p) = true := by
  obtain ⟨l, hl, ht⟩ := tr_in.1 h1
  by_cases e : l = p
  · obtain ⟨m, hm, hmt⟩ := tr_in.1 h2
    refine tr_in.2 ⟨m, ?_, hmt⟩
    unfold joinL
    rw [setF_mem, List.mem_append, List.mem_filter, List.mem_filter]
    right
    refine ⟨hm, decide_eq_true fun e2 => ?_⟩
    rw [e2, ltT_neg hp, ← e, ht] at hmt
    cases hmt
  · refine tr_in.2 ⟨l, ?_, ht⟩
    unfold joinL
    rw [setF_mem, List.mem_append, List.mem_filter, List.mem_filter]
    exact Or.inl ⟨hl, decide_eq_true e⟩
theorem pivF_ne {S : Int → Bool} : ∀ {c : List Int} {p : Int}, (pivF S c p).2 = true → (pivF S c p).1 ≠ 0
  | [], p, h => by unfold pivF at h ⊢; simpa using h
  | l :: c, p, h => by
    unfold pivF at h ⊢
    split at h
    · next e => rw [if_pos e]; exact pivF_ne h
    · next e =>
      rw [if_neg e]
      split at h
      · cases h
      · next e2 => rw [if_neg e2]; exact pivF_ne h
theorem clF_from {G D : List (List Int)} {x : Int} {c : List Int} (h : clF G D x = some c) : c ∈ D ∨ c ∈ G := by
  unfold clF at h
  split at h
  · cases h
  · split at h
    · exact Or.inl (List.mem_of_getElem? h)
    · split at h
      · next c' hc =>
        split at h
        · cases h
        · injection h with h; subst h; exact Or.inr (List.mem_of_getElem? hc)
      · cases h
section
variable {n : Nat} {G : List (List Int)}
theorem goF_true {D : List (List Int)} (hG : ∀ c ∈ G, trF n c = true) (hD : ∀ d ∈ D, Dc G.flatten d ∧ trF n d = true) : ∀ {F cur : List Int} {b : Bool} {r : List Int}, (b = true ∧ F ≠ [] ∨ b = false ∧ trF n cur = true) → goF G D cur b F = some r → trF n r = true
  | [], cur, b, r, h, e => by
    rw [goF] at e; injection e with e; subst e
    rcases h with h | h
    · exact absurd rfl h.2
    · exact h.2
  | x :: F, cur, b, r, h, e => by
    rw [goF] at e
    split at e
    · cases e
    · next c hc =>
      have hct : trF n c = true := by
        rcases clF_from hc with h1 | h1
        · exact (hD c h1).2
        · exact hG c h1
      have hcz := (clF_sub (fun d hd => (hD d hd).1) hc).1
      split at e
      · exact goF_true hG hD (Or.inr ⟨rfl, join_first hcz hct⟩) e
      · next hb =>
        split at e
        · next hp =>
          have hcur : trF n cur = true := by
            rcases h with h | h
            · exact absurd h.1 hb
            · exact h.2
          exact goF_true hG hD (Or.inr ⟨rfl, join_true (pivF_ne hp) hcur hct⟩) e
        · cases e
theorem resF_true {D : List (List Int)} (hG : ∀ c ∈ G, trF n c = true) (hD : ∀ d ∈ D, Dc G.flatten d ∧ trF n d = true) {F r : List Int} (e : resF G D F = some r) : trF n r = true := by
  unfold resF at e
  split at e
  · cases e
  · next h => exact goF_true hG hD (Or.inl ⟨rfl, h⟩) e
theorem derL_true (hG : ∀ c ∈ G, trF n c = true) : ∀ {L D E : List (List Int)}, (∀ d ∈ D, Dc G.flatten d ∧ trF n d = true) → derL G D L = some E → ∀ d ∈ E, trF n d = true
  | [], D, E, hD, e => by rw [derL] at e; injection e with e; subst e; exact fun d hd => (hD d hd).2
  | F :: L, D, E, hD, e => by
    rw [derL] at e
    split at e
    · cases e
    · next r hr =>
      refine derL_true hG (fun d hd => ?_) e
      rcases List.mem_append.1 hd with h | h
      · exact hD d h
      · rw [List.mem_singleton.1 h]
        exact ⟨resF_dc (fun d hd => (hD d hd).1) hr, resF_true hG hD hr⟩
theorem derL_dc : ∀ {L D E : List (List Int)}, (∀ d ∈ D, Dc G.flatten d) → derL G D L = some E → ∀ d ∈ E, Dc G.flatten d
  | [], D, E, hD, e => by rw [derL] at e; injection e with e; subst e; exact hD
  | F :: L, D, E, hD, e => by
    rw [derL] at e
    split at e
    · cases e
    · next r hr =>
      refine derL_dc (fun d hd => ?_) e
      rcases List.mem_append.1 hd with h | h
      · exact hD d h
      · rw [List.mem_singleton.1 h]; exact resF_dc hD hr
end
theorem chk_der {G : List (List Int)} {b : List Int} (h : chkF G b = 0) : ∃ L D, derL G [] L = some D ∧ D.getLast? = some [] := by
  unfold chkF at h
  unfold rfF at h
  split at h
  · next h1 => exact absurd h h1
  · next h1 =>
    have e : decF b = ((decF b).1, 0) := Prod.ext rfl (by simpa using h1)
    have h2 : chkF G b = endF G (decF b).1 := chk_end e
    unfold chkF rfF at h2
    rw [if_neg h1] at h2
    rw [h2] at h
    obtain ⟨D, hD, hl⟩ := end_der h
    exact ⟨_, D, hD, hl⟩
/-- Accepted bytes: no assignment makes all clauses true. -/
theorem chk_sound {G : List (List Int)} {b : List Int} (h : chkF G b = 0) (m : Nat) : canF m G = false := by
  obtain ⟨L, D, hD, hl⟩ := chk_der h
  unfold canF
  rw [List.any_eq_false]
  intro n _ ha
  unfold allF at ha
  have hG := List.all_eq_true.1 ha
  have h1 := derL_true hG (fun d hd => by simp at hd) hD [] (List.mem_of_getLast? hl)
  simp [trF] at h1
end Go.Proofs.Ythdgmkjjpmigeaa
