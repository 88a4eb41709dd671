/- What clauses a store takes, as a set; a slice of slices that is gathered. -/
import Derived.Test.YtcbkgnalfdoemaaST40
import Derived.Deep.Slices
namespace Go.Proofs.Ytcbkgnalfdoemaa
open Go.RowKit
set_option linter.unusedSimpArgs false
set_option linter.unusedVariables false

theorem addF_room {mo : Nat} {C : List (List Int)} {c : List Int} (h : (ar C).length + 2 + c.length ≤ mo) : (addF mo C c).2.2 = if (onceF c).2 = 0 then C ++ [dd c] else C := by
  have := len_dd c
  unfold addF
  by_cases h0 : (onceF c).2 = 0
  · rw [if_neg (by simp [h0]), if_neg (by omega), if_pos h0]
  · rw [if_pos h0, if_neg h0]
theorem addsF_mem {mo : Nat} : ∀ (M C : List (List Int)), (ar C).length + 2 * M.length + (M.map List.length).sum ≤ mo → ∀ x, x ∈ addsF mo C M ↔ x ∈ C ∨ ∃ c ∈ M, (onceF c).2 = 0 ∧ x = dd c
  | [], C, h, x => by simp [addsF]
  | c :: M, C, h, x => by
    rw [List.length_cons, List.map_cons, List.sum_cons] at h
    have h1 := addF_room (mo := mo) (C := C) (c := c) (by omega)
    have h2 : (ar (addF mo C c).2.2).length ≤ (ar C).length + 2 + c.length := by
      rw [h1]
      split
      · rw [ar_snoc]; have := len_dd c; simp; omega
      · omega
    have h3 := addsF_mem (mo := mo) M (addF mo C c).2.2 (by omega) x
    show x ∈ addsF mo (addF mo C c).2.2 M ↔ _
    rw [h3, h1]
    by_cases h0 : (onceF c).2 = 0
    · rw [if_pos h0]
      simp only [List.mem_append, List.mem_cons, List.not_mem_nil, or_false]
      constructor
      · rintro ((h4 | h4) | ⟨d, h4, h5⟩)
        · exact Or.inl h4
        · exact Or.inr ⟨c, Or.inl rfl, h0, h4⟩
        · exact Or.inr ⟨d, Or.inr h4, h5⟩
      · rintro (h4 | ⟨d, rfl | h4, h5⟩)
        · exact Or.inl (Or.inl h4)
        · exact Or.inl (Or.inr h5.2)
        · exact Or.inr ⟨d, h4, h5⟩
    · rw [if_neg h0]
      simp only [List.mem_cons]
      constructor
      · rintro (h4 | ⟨d, h4, h5⟩)
        · exact Or.inl h4
        · exact Or.inr ⟨d, Or.inr h4, h5⟩
      · rintro (h4 | ⟨d, rfl | h4, h5⟩)
        · exact Or.inl h4
        · exact absurd h5.1 h0
        · exact Or.inr ⟨d, h4, h5⟩
theorem madeF_adds (L : List (List Int)) : madeF L = addsF 262144 [] L := rfl
theorem ar_nil : (ar []).length = 0 := rfl
/-- The clauses of a list turned round are the same. -/
theorem madeF_rev {L : List (List Int)} (h : 2 * L.length + (L.map List.length).sum ≤ 262144) : ∀ x, x ∈ madeF L.reverse ↔ x ∈ madeF L := fun x => by
  rw [madeF_adds, madeF_adds, addsF_mem L [] (by rw [ar_nil]; omega), addsF_mem L.reverse [] (by rw [ar_nil, List.length_reverse, List.map_reverse, List.sum_reverse]; omega)]
  simp
theorem fol_order {C C' : List (List Int)} {lits lits' T T' : List Int} {m n : Int} (h : FolR C lits T m) (h' : FolR C' lits' T' n) (hC : ∀ x, x ∈ C' ↔ x ∈ C) (hl : ∀ x, x ∈ lits' ↔ x ∈ lits) : (m = -1 ↔ n = -1) ∧ (m = -1 → ∀ x, x ∈ T ↔ x ∈ T') := by
  refine ⟨⟨fun e => ?_, fun e => ?_⟩, fun e => ?_⟩
  · subst e; exact (fol_one h h' (fun c hc => (hC c).1 hc) (fun x hx => (hl x).1 hx)).1
  · subst e; exact (fol_one h' h (fun c hc => (hC c).2 hc) (fun x hx => (hl x).2 hx)).1
  · subst e
    obtain ⟨e2, h1⟩ := fol_one h h' (fun c hc => (hC c).1 hc) (fun x hx => (hl x).1 hx)
    subst e2
    exact fun x => ⟨fun hx => (fol_one h' h (fun c hc => (hC c).2 hc) (fun x hx => (hl x).2 hx)).2 x hx, fun hx => h1 x hx⟩
/-- A gathered row of slices that are only read. -/
theorem row_lr {w : World} {B : Nat} {v : Value} {us : List Value} {M : List (List Int)} (h : w.ownsRow B 27 1 v us.length us) (hl : us.length = M.length) (hu : ∀ (i : Nat) u x, us[i]? = some u → M[i]? = some x → Sr w u x) : Lr w v M := by
  obtain ⟨a, c, e⟩ := own_slice h
  refine ⟨a, c, by rw [e, hl], ?_⟩
  rcases h.2 with ⟨e0, h0⟩ | ⟨g, cap, cur, e0, hb, hg, hc, hm, hs, ht⟩
  · left; exact List.eq_nil_of_length_eq_zero (by omega)
  · right
    rw [e] at e0
    injection e0 with e1 e2 e3
    refine ⟨g, 0, e1, (Array.getElem?_eq_some_iff.1 hg).1, fun i x hx => ?_⟩
    have hi : i < us.length := by have := (List.getElem?_eq_some_iff.1 hx).1; omega
    have h6 : (cur.toList.take (us.length * 1))[i]? = some us[i] := by rw [ht]; exact List.getElem?_eq_getElem hi
    rw [List.getElem?_take_of_lt (by omega)] at h6
    refine ⟨us[i], ?_, hu i _ x (List.getElem?_eq_getElem hi) hx⟩
    rw [Nat.zero_add]
    exact cell_of hg _ (by simpa using h6)
/-- The slices of a slice, one by one. -/
theorem Lr.vals {w : World} {a : Option Addr} {n c : Nat} {L : List (List Int)} (h : Lr w (.slice a n c) L) : ∃ us : List Value, us.length = L.length ∧ ∀ (i : Nat) u x, us[i]? = some u → L[i]? = some x → Sr w u x ∧ ∃ r o, a = some ⟨r, o, none⟩ ∧ r < w.heap.size ∧ w.cell? ⟨r, o + i, none⟩ = some u := by
  obtain ⟨N, hN⟩ := Go.Deep.choose_lt (n := L.length) (p := fun i u => ∀ x, L[i]? = some x → Sr w u x ∧ ∃ r o, a = some ⟨r, o, none⟩ ∧ r < w.heap.size ∧ w.cell? ⟨r, o + i, none⟩ = some u) (fun i hi => by
    obtain ⟨r, o, u, e, hc, hs⟩ := h.at' (List.getElem?_eq_getElem hi)
    exact ⟨u, fun x hx => by
      rw [List.getElem?_eq_getElem hi] at hx
      injection hx with hx
      rw [← hx]
      exact ⟨hs, r, o, e, World.block_lt_of_cell? _ _ hc, hc⟩⟩)
  refine ⟨(List.range L.length).map N, by simp, fun i u x hu hx => ?_⟩
  have hi : i < L.length := (List.getElem?_eq_some_iff.1 hx).1
  rw [List.getElem?_map, List.getElem?_range hi] at hu
  injection hu with hu
  rw [← hu]
  exact hN i hi x hx
end Go.Proofs.Ytcbkgnalfdoemaa
