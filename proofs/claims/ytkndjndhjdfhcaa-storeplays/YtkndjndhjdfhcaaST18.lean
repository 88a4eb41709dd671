/- Plain: the arena with its places; lists of watches with moves. -/
import Derived.Test.YtkndjndhjdfhcaaST17
namespace Go.Proofs.Ytkndjndhjdfhcaa
open Go.RowKit
set_option linter.unusedSimpArgs false
set_option linter.unusedVariables false

/-- The arena: of each clause the places of its watched literals, then these. -/
def arP : List (List Int) → (Nat → Nat × Nat) → Nat → List Int
  | [], _, _ => []
  | c :: C, P, o => ((P o).1 : Int) :: ((P o).2 : Int) :: (c ++ arP C P (o + 1))
theorem arN_zero (C : List (List Int)) : arN C 0 = 0 := rfl
theorem arN_cons (c : List Int) (C : List (List Int)) (k : Nat) : arN (c :: C) (k + 1) = c.length + 2 + arN C k := by
  unfold arN
  rw [List.take_succ_cons]
  unfold ar
  simp
  omega
theorem arP_len : ∀ (C : List (List Int)) (P : Nat → Nat × Nat) (o : Nat), (arP C P o).length = (ar C).length
  | [], _, _ => rfl
  | c :: C, P, o => by
    have e : ar (c :: C) = (0 :: 1 :: c) ++ ar C := by unfold ar; simp
    rw [e, arP, List.length_append, List.length_cons, List.length_cons, List.length_append, arP_len C P (o + 1)]
    simp; omega
theorem arP_congr : ∀ (C : List (List Int)) (P P' : Nat → Nat × Nat) (o : Nat), (∀ j, o ≤ j → P j = P' j) → arP C P o = arP C P' o
  | [], _, _, _, _ => rfl
  | c :: C, P, P', o, h => by
    rw [arP, arP, h o (Nat.le_refl _), arP_congr C P P' (o + 1) (fun j hj => h j (by omega))]
theorem arP_rest : ∀ (C : List (List Int)) (P : Nat → Nat × Nat) (o : Nat), (∀ j, P j = (0, 1)) → arP C P o = ar C
  | [], _, _, _ => rfl
  | c :: C, P, o, h => by
    have e : ar (c :: C) = (0 :: 1 :: c) ++ ar C := by unfold ar; simp
    rw [e, arP, h o, arP_rest C P (o + 1) h]; rfl
theorem arP_at : ∀ (C : List (List Int)) (P : Nat → Nat × Nat) (o k : Nat) (c : List Int), C[k]? = some c → ∀ j, j < c.length + 2 → (arP C P o).getD (arN C k + j) 0 = (((P (o + k)).1 : Int) :: ((P (o + k)).2 : Int) :: c).getD j 0
  | [], _, _, _, _, h, _, _ => by simp at h
  | d :: C, P, o, 0, c, h, j, hj => by
    obtain rfl : d = c := by simpa using h
    rw [arN_zero, Nat.zero_add, Nat.add_zero, arP, List.getD_eq_getElem?_getD, List.getD_eq_getElem?_getD]
    match j with
    | 0 => rfl
    | 1 => rfl
    | j + 2 =>
      simp only [List.getElem?_cons_succ]
      rw [List.getElem?_append_left (by omega)]
  | d :: C, P, o, k + 1, c, h, j, hj => by
    have h1 : C[k]? = some c := by simpa using h
    have ih := arP_at C P (o + 1) k c h1 j hj
    rw [arN_cons, arP, List.getD_eq_getElem?_getD, show d.length + 2 + arN C k + j = (d.length + (arN C k + j)) + 1 + 1 by omega]
    simp only [List.getElem?_cons_succ]
    rw [List.getElem?_append_right (by omega), show d.length + (arN C k + j) - d.length = arN C k + j by omega, ← List.getD_eq_getElem?_getD, ih, show o + 1 + k = o + (k + 1) by omega]
def upP (P : Nat → Nat × Nat) (i : Nat) (x : Nat × Nat) : Nat → Nat × Nat := fun j => if j = i then x else P j
theorem arP_set : ∀ (C : List (List Int)) (P : Nat → Nat × Nat) (o k : Nat) (c : List Int), C[k]? = some c → ∀ x : Nat, (arP C P o).set (arN C k) (x : Int) = arP C (upP P (o + k) (x, (P (o + k)).2)) o ∧ (arP C P o).set (arN C k + 1) (x : Int) = arP C (upP P (o + k) ((P (o + k)).1, x)) o
  | [], _, _, _, _, h, _ => by simp at h
  | d :: C, P, o, 0, c, h, x => by
    rw [arN_zero, Nat.add_zero, Nat.zero_add]
    have e1 := arP_congr C P (upP P o (x, (P o).2)) (o + 1) (fun j hj => by unfold upP; rw [if_neg (by omega)])
    have e2 := arP_congr C P (upP P o ((P o).1, x)) (o + 1) (fun j hj => by unfold upP; rw [if_neg (by omega)])
    refine ⟨?_, ?_⟩
    · rw [arP, arP, ← e1]
      unfold upP
      simp
    · rw [arP, arP, ← e2]
      unfold upP
      simp
  | d :: C, P, o, k + 1, c, h, x => by
    have h1 : C[k]? = some c := by simpa using h
    obtain ⟨i1, i2⟩ := arP_set C P (o + 1) k c h1 x
    rw [show o + 1 + k = o + (k + 1) by omega] at i1 i2
    have hp : ∀ y, upP P (o + (k + 1)) y o = P o := fun y => by unfold upP; rw [if_neg (by omega)]
    refine ⟨?_, ?_⟩
    · rw [arN_cons, arP, arP, hp, ← i1, show d.length + 2 + arN C k = (d.length + arN C k) + 1 + 1 by omega]
      simp only [List.set_cons_succ]
      rw [List.set_append_right _ _ (by omega), show d.length + arN C k - d.length = arN C k by omega]
    · rw [arN_cons, arP, arP, hp, ← i2, show d.length + 2 + arN C k + 1 = (d.length + (arN C k + 1)) + 1 + 1 by omega]
      simp only [List.set_cons_succ]
      rw [List.set_append_right _ _ (by omega), show d.length + (arN C k + 1) - d.length = arN C k + 1 by omega]

/-- The moves to the literal of number k. -/
def mv (M : List (Nat × Nat)) (k : Nat) : List Int := (M.filter fun x => decide (x.2 = k)).map fun x => (x.1 : Int)
/-- The clauses in the list of the literal of number k. -/
def wl (C : List (List Int)) (M : List (Nat × Nat)) (k : Nat) : List Int := ixs (wt k) C ++ mv M k
/-- All lists; D: the moves that are not yet put back. -/
def wlsU (C : List (List Int)) (m : Nat) (M D : List (Nat × Nat)) : List (List Int) := (List.range m).map fun k => ixs (wt k) C ++ (mv M k).take (mv D k).length
theorem wlsU_nil (C : List (List Int)) (m : Nat) (M : List (Nat × Nat)) : wlsU C m M [] = wls C m := by
  unfold wlsU wls
  refine List.map_congr_left fun k _ => ?_
  show ixs (wt k) C ++ (mv M k).take 0 = _
  simp
theorem wlsU_at (C : List (List Int)) (M D : List (Nat × Nat)) {m k : Nat} (h : k < m) : (wlsU C m M D)[k]? = some (ixs (wt k) C ++ (mv M k).take (mv D k).length) := by
  unfold wlsU
  rw [List.getElem?_map, List.getElem?_range h]; rfl
theorem wlsU_full (C : List (List Int)) (M : List (Nat × Nat)) {m k : Nat} (h : k < m) : (wlsU C m M M)[k]? = some (wl C M k) := by
  rw [wlsU_at C M M h, List.take_length]; rfl
theorem wlsU_len (C : List (List Int)) (m : Nat) (M D : List (Nat × Nat)) : (wlsU C m M D).length = m := by unfold wlsU; simp
theorem mv_snoc (M : List (Nat × Nat)) (x : Nat × Nat) (k : Nat) : mv (M ++ [x]) k = mv M k ++ (if x.2 = k then [(x.1 : Int)] else []) := by
  unfold mv
  rw [List.filter_append, List.map_append]
  congr 1
  by_cases h : x.2 = k <;> simp [h]
theorem mv_cons (M : List (Nat × Nat)) (x : Nat × Nat) (k : Nat) : (mv (x :: M) k).length = (mv M k).length + (if x.2 = k then 1 else 0) := by
  unfold mv
  by_cases h : x.2 = k <;> simp [h]
theorem wlsU_snoc {C : List (List Int)} {m : Nat} {M : List (Nat × Nat)} {x : Nat × Nat} (h : x.2 < m) : addW (wlsU C m M M) x.2 (x.1 : Int) = wlsU C m (M ++ [x]) (M ++ [x]) := by
  refine List.ext_getElem? fun j => ?_
  rw [addW_at]
  by_cases hj : j < m
  · rw [wlsU_full _ _ hj, wlsU_full _ _ hj]
    unfold wl
    rw [mv_snoc]
    by_cases e : x.2 = j
    · simp [e]
    · simp [e]
  · rw [List.getElem?_eq_none (by rw [wlsU_len]; omega), List.getElem?_eq_none (by rw [wlsU_len]; omega)]
    simp
theorem mem_mv {M : List (Nat × Nat)} {k : Nat} {r : Int} : r ∈ mv M k ↔ ∃ i : Nat, (i, k) ∈ M ∧ r = (i : Int) := by
  unfold mv
  constructor
  · intro h
    obtain ⟨x, hx, rfl⟩ := List.mem_map.1 h
    obtain ⟨h1, h2⟩ := List.mem_filter.1 hx
    have h3 : x.2 = k := by simpa using h2
    exact ⟨x.1, by rw [← h3]; exact h1, rfl⟩
  · rintro ⟨i, h, rfl⟩
    exact List.mem_map.2 ⟨(i, k), List.mem_filter.2 ⟨h, by simp⟩, rfl⟩
/-- One move is put back: the list's last one is cut. -/
theorem wlsU_cut {C : List (List Int)} {m : Nat} {M D : List (Nat × Nat)} {x : Nat × Nat} (h : x.2 < m) (hs : ∀ k, (mv (x :: D) k).length ≤ (mv M k).length) : ∃ L r, (wlsU C m M (x :: D))[x.2]? = some (L ++ [r]) ∧ (wlsU C m M (x :: D)).set x.2 L = wlsU C m M D := by
  have h1 := hs x.2
  have h2 := mv_cons D x x.2
  rw [if_pos rfl] at h2
  have hl : (mv D x.2).length < (mv M x.2).length := by omega
  refine ⟨ixs (wt x.2) C ++ (mv M x.2).take (mv D x.2).length, (mv M x.2)[(mv D x.2).length], ?_, ?_⟩
  · rw [wlsU_at C M _ h, h2, List.take_add_one, List.getElem?_eq_getElem hl, List.append_assoc]; rfl
  · refine List.ext_getElem? fun j => ?_
    by_cases hj : j < m
    · by_cases e : x.2 = j
      · subst e
        rw [List.getElem?_set_self (by rw [wlsU_len]; exact hj), wlsU_at C M D hj]
      · rw [List.getElem?_set_ne e, wlsU_at C M _ hj, wlsU_at C M D hj]
        have h3 := mv_cons D x j
        rw [if_neg e] at h3
        rw [h3]; rfl
    · rw [List.getElem?_eq_none (by rw [List.length_set, wlsU_len]; omega), List.getElem?_eq_none (by rw [wlsU_len]; omega)]
end Go.Proofs.Ytkndjndhjdfhcaa
