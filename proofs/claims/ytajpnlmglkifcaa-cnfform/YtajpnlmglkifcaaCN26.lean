/- A list is appended to a list of lists; what a run's clauses lie in. -/
import Derived.Test.YtajpnlmglkifcaaCN25
namespace Go.Proofs.Ytajpnlmglkifcaa
open Go.RowKit
set_option linter.unusedSimpArgs false
set_option linter.unusedVariables false

theorem Ls.push {w w3 : World} {o : Obj} {B B' : Nat} {u v3 y : Value} {us : List Value} {C : List (List Int)} {c : List Int} (hL : Ls w B u us C) (hI : Is' w B' y c) (hu : ∀ q, u.ownBlock = some q → q < B') (hBB : B ≤ B') (hown : w3.ownsRow B 31 1 v3 (us.length + 1) (us ++ [y])) (hgrow : (w.alloc o).grownBy w3 u.ownBlock) (hat : v3.ownBlock = u.ownBlock ∨ v3.ownBlock = some (w.alloc o).heap.size) :
    Ls w3 B v3 (us ++ [y]) (C ++ [c]) := by
  have hold : ∀ q, q < w.heap.size → u.ownBlock ≠ some q → w3.heap[q]? = w.heap[q]? := fun q hq hn => (hgrow.block q (by rw [size_alloc']; omega) (fun e => hn e.symm)).trans (heap_alloc_old _ _ hq)
  have hnew : ∀ q, q < w.heap.size → u.ownBlock ≠ some q → v3.ownBlock ≠ some q := fun q hq hn e => by
    rcases hat with e2 | e2
    · exact hn (e2.symm.trans e)
    · rw [e2, size_alloc'] at e
      injection e with e
      omega
  refine ⟨by rw [List.length_append]; exact hown, by rw [List.length_append, List.length_append, hL.len]; rfl, fun i z c' hy hc' => ?_⟩
  by_cases hi : i < us.length
  · rw [List.getElem?_append_left hi] at hy
    rw [List.getElem?_append_left (by rw [← hL.len]; exact hi)] at hc'
    obtain ⟨e1, e2⟩ := hL.cl i z c' hy hc'
    exact ⟨row_own e1 (fun q hq => hold q (e1.lt q hq).2 (e2 q hq)), fun q hq => hnew q (e1.lt q hq).2 (e2 q hq)⟩
  · have hil := (List.getElem?_eq_some_iff.1 hy).1
    rw [List.length_append] at hil
    have hie : i = us.length := by simp at hil; omega
    subst hie
    rw [List.getElem?_append_right (Nat.le_refl _), Nat.sub_self] at hy
    rw [hL.len, List.getElem?_append_right (Nat.le_refl _), Nat.sub_self] at hc'
    obtain rfl : c = c' := by simpa using hc'
    obtain rfl : y = z := by simpa using hy
    have hu3 : ∀ q, y.ownBlock = some q → u.ownBlock ≠ some q := fun q hq e => by
      have h4 := (hI.lt q hq).1
      have h5 := hu q e
      omega
    exact ⟨own_mono (row_own hI (fun q hq => hold q (hI.lt q hq).2 (hu3 q hq))) hBB, fun q hq => hnew q (hI.lt q hq).2 (hu3 q hq)⟩
/-- One list of lists: its cell, what it holds. -/
theorem Ls.at {w : World} {B n cap k : Nat} {a : Option Addr} {us : List Value} {C : List (List Int)} {c : List Int} (h : Ls w B (.slice a n cap) us C) (hk : C[k]? = some c) (hc : c ≠ []) : ∃ r rc cc, a = some ⟨r, 0, none⟩ ∧ w.cell? ⟨r, k, none⟩ = some (.slice (some ⟨rc, 0, none⟩) c.length cc) ∧ Is' w B (.slice (some ⟨rc, 0, none⟩) c.length cc) c := by
  have hkl : k < us.length := by rw [h.len]; exact (List.getElem?_eq_some_iff.1 hk).1
  obtain ⟨u, hu⟩ : ∃ u, us[k]? = some u := ⟨_, List.getElem?_eq_getElem hkl⟩
  obtain ⟨a', c', e1, e2⟩ := h.sl
  injection e1 with e1 e1b e1c
  subst e1
  obtain ⟨r, q1, -, -, q2⟩ := e2.resolve_left (fun e => by rw [e] at hkl; simp at hkl)
  have hI := (h.cl k u c hu hk).1
  obtain ⟨rc, cc, rfl, -⟩ := hI.li hc
  exact ⟨r, rc, cc, q1, q2 k _ hu, hI⟩
theorem Is'.cells {w : World} {B r n cap : Nat} {l : List Int} (h : Is' w B (.slice (some ⟨r, 0, none⟩) n cap) l) : Li w r 0 l := by
  by_cases hl : l = []
  · subst hl
    intro j hj
    simp at hj
  · obtain ⟨r', c', e, -, -, hL⟩ := h.li hl
    injection e with e1
    injection e1 with e1
    injection e1 with e1
    subst e1
    exact hL
theorem setF_ne {c : List Int} (h : c ≠ []) : setF c ≠ [] := by
  obtain ⟨x, hx⟩ := List.exists_mem_of_ne_nil c h
  exact List.ne_nil_of_mem (setF_mem.2 hx)
end Go.Proofs.Ytajpnlmglkifcaa
