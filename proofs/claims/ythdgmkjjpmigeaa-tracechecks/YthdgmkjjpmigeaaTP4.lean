/- Plain: what a trimmed trace is: accepted, no step too many, trimmed again the same. -/
import Derived.Test.YthdgmkjjpmigeaaTP3
namespace Go.Proofs.Ythdgmkjjpmigeaa
open Go.RowKit
set_option linter.unusedSimpArgs false
set_option linter.unusedVariables false

/-- Each step but the last one is named by a later one. -/
def Used (g : Nat) (L : List (List Int)) : Prop := ∀ j, j + 1 < L.length → ∃ i F, j < i ∧ L[i]? = some F ∧ ((g : Int) + (j : Int)) ∈ F
theorem all_marked {g : Nat} {L : List (List Int)} {nd : List Bool} (hU : Used g L) (hN : Nd g L L.length nd) : ∀ d j, j < L.length → L.length - 1 - j = d → nd.getD j false = true := by
  intro d
  induction d using Nat.strongRecOn with
  | _ d ih =>
    intro j hj hd
    by_cases e : j + 1 < L.length
    · obtain ⟨i, F, h1, h2, h3⟩ := hU j e
      have hi : i < L.length := (List.getElem?_eq_some_iff.1 h2).1
      have h4 := ih (L.length - 1 - i) (by omega) i hi rfl
      have h5 := hN.shut i F (by omega) h2 h4 _ h3 (by omega)
      rwa [show ((g : Int) + (j : Int) - (g : Int)).toNat = j by omega] at h5
    · rw [show j = L.length - 1 by omega]; exact hN.last
theorem cn_all {nd : List Bool} : ∀ {k : Nat}, (∀ j, j < k → nd.getD j false = true) → cn nd k = List.range k
  | 0, _ => rfl
  | k + 1, h => by rw [cn_yes (h k (by omega)), cn_all (fun j hj => h j (by omega)), List.range_succ]
theorem kp_all {g : Nat} {L : List (List Int)} {nd : List Bool} (hA : Ahd g L) (h : ∀ j, j < L.length → nd.getD j false = true) : kp g L nd L.length = L := by
  unfold kp
  rw [cn_all h]
  refine List.ext_getElem? fun i => ?_
  rw [List.getElem?_map]
  by_cases hi : i < L.length
  · rw [List.getElem?_range hi, isl_getD hi]
    show some _ = some _
    congr 1
    have hF := isl_getD hi
    have : ∀ x ∈ L.getD i [], rn g nd x = x := fun x hx => by
      have hx2 := hA i _ hF x hx
      unfold rn
      by_cases hg : (g : Int) ≤ x
      · rw [if_pos hg, cn_all (fun j hj => h j (by omega)), List.length_range]; omega
      · rw [if_neg hg]
    exact (List.map_congr_left this).trans (List.map_id' _)
  · rw [List.getElem?_eq_none (by simpa using hi), List.getElem?_eq_none (by omega)]; rfl
theorem kp_at {g : Nat} {L : List (List Int)} {nd : List Bool} {i k : Nat} (h : nd.getD i false = true) (hk : i < k) : (kp g L nd k)[(cn nd i).length]? = some ((L.getD i []).map (rn g nd)) := by
  unfold kp; rw [List.getElem?_map, cn_at h k hk]; rfl
theorem kp_used {g : Nat} {L : List (List Int)} {nd : List Bool} (h0 : 0 < L.length) (hN : Nd g L L.length nd) : Used g (kp g L nd L.length) := by
  intro c hc
  have hl : (kp g L nd L.length).length = (cn nd L.length).length := by unfold kp; simp
  rw [hl] at hc
  obtain ⟨j, hj⟩ : ∃ j, (cn nd L.length)[c]? = some j := ⟨_, List.getElem?_eq_getElem (by omega)⟩
  obtain ⟨h1, h2, h3⟩ := cn_inv hj
  have hne : j + 1 < L.length := by
    refine Nat.lt_of_le_of_ne (by omega) fun e => ?_
    have e2 : cn nd L.length = cn nd j ++ [j] := by rw [← e, cn_yes h1]
    rw [e2, List.length_append, List.length_singleton] at hc
    omega
  obtain ⟨i, F, -, h5, h6, h7, h8⟩ := hN.why j hne h1
  have hi : i < L.length := (List.getElem?_eq_some_iff.1 h6).1
  refine ⟨(cn nd i).length, _, by rw [h3]; exact cn_lt h1 h5, kp_at h7 hi, ?_⟩
  rw [List.getD_eq_getElem?_getD, h6]
  refine List.mem_map.2 ⟨_, h8, ?_⟩
  unfold rn
  rw [if_pos (by omega), show ((g : Int) + (j : Int) - (g : Int)).toNat = j by omega, h3]
theorem kp_ahd {g : Nat} {L : List (List Int)} {nd : List Bool} (hA : Ahd g L) (hN : Nd g L L.length nd) : Ahd g (kp g L nd L.length) := by
  intro c F hF x hx
  unfold kp at hF
  rw [List.getElem?_map] at hF
  obtain ⟨j, hj, e⟩ := Option.map_eq_some_iff.1 hF
  obtain ⟨h1, h2, h3⟩ := cn_inv hj
  subst e
  obtain ⟨y, hy, rfl⟩ := List.mem_map.1 hx
  have hyb := hA j _ (isl_getD h2) y hy
  unfold rn
  by_cases hg : (g : Int) ≤ y
  · rw [if_pos hg]
    have := cn_lt (hN.shut j _ (by omega) (isl_getD h2) h1 y hy hg) (k := j) (by omega)
    omega
  · rw [if_neg hg]; omega
theorem enc_ok {C : List (List Int)} (h : ∀ s ∈ C, ∀ x ∈ s, 0 ≤ x ∧ x ≤ 2147483647) : (encF C).2 = 0 := by
  unfold encF
  rw [if_neg]
  rw [Bool.not_eq_true, List.any_eq_false]
  intro s hs
  rw [Bool.not_eq_true, List.any_eq_false]
  intro x hx
  rw [Bool.not_eq_true, noN_iff]
  exact h s hs x hx
theorem ahd_num {g : Nat} {L : List (List Int)} (hA : Ahd g L) (hb : g + L.length ≤ 2147483647) : ∀ s ∈ L, ∀ x ∈ s, 0 ≤ x ∧ x ≤ 2147483647 := fun s hs x hx => by
  obtain ⟨i, hi⟩ := List.getElem?_of_mem hs
  have h1 := hA i s hi x hx
  have h2 : i < L.length := (List.getElem?_eq_some_iff.1 hi).1
  omega
theorem rf_of {G L : List (List Int)} {b : List Int} (hd : decF b = (L, 0)) (he : endF G L = 0) : rfF G b = (L, 0) := by
  have h1 : (rfF G b).2 = 0 := by have := chk_end (G := G) hd; unfold chkF at this; rw [this, he]
  have h2 := rfF_ahd h1
  refine Prod.ext ?_ h1
  rw [h2.2.2, hd]
theorem end_der {G L : List (List Int)} (he : endF G L = 0) : ∃ D, derL G [] L = some D ∧ D.getLast? = some [] := by
  unfold endF derF at he
  cases h : derL G [] L with
  | none => rw [h] at he; simp at he
  | some D =>
    rw [h] at he
    refine ⟨D, rfl, ?_⟩
    simp only [ne_eq, not_true_eq_false, if_false] at he
    cases hl : D.getLast? with
    | none => rw [hl] at he; simp at he
    | some l =>
      rw [hl] at he
      cases l with
      | nil => rfl
      | cons y t => simp at he
theorem der_end {G L D : List (List Int)} (h : derL G [] L = some D) (hl : D.getLast? = some []) : endF G L = 0 := by
  unfold endF derF; rw [h]; simp [hl]
/-- What Trim leaves of steps that are accepted. -/
structure Tm (G L K : List (List Int)) : Prop where
  ok : endF G K = 0
  used : Used G.length K
  ahd : Ahd G.length K
  len : K.length ≤ L.length
  size : K.length + (K.map List.length).sum ≤ L.length + (L.map List.length).sum
theorem trim_of {G L : List (List Int)} {b : List Int} (hd : decF b = (L, 0)) (he : endF G L = 0) (hs : L.length + (L.map List.length).sum ≤ 2000) : ∃ K, trmF G b = encF K ∧ Tm G L K ∧ (Used G.length L → K = L) := by
  have hr := rf_of hd he
  have h1 := rfF_ahd (G := G) (b := b) (by rw [hr])
  rw [hr] at h1
  obtain ⟨hA, h0, -⟩ := h1
  have hA : Ahd G.length L := hA
  have h0 : 0 < L.length := h0
  obtain ⟨D, hD, hDl⟩ := end_der he
  have hN := nd_of h0 hA L.length (Nat.le_refl _)
  obtain ⟨nd, hnd⟩ : ∃ nd, nd = nedS G.length L L.length := ⟨_, rfl⟩
  rw [← hnd] at hN
  have hk := (kpS_eq hA hN L.length (Nat.le_refl _)).1
  refine ⟨kp G.length L nd L.length, ?_, ⟨?_, kp_used h0 hN, kp_ahd hA hN, ?_, ?_⟩, fun hU => kp_all hA fun j hj => all_marked hU hN _ j hj rfl⟩
  · unfold trmF
    rw [hr]
    show encF (kpS G.length L (nedS G.length L L.length) L.length).2 = _
    rw [← hnd, hk]
  · refine der_end (der_kept hD hA hN L.length (Nat.le_refl _)) ?_
    obtain ⟨-, hl, -⟩ := derL_pre hD
    have e : L.length = (L.length - 1) + 1 := by omega
    have e2 : cn nd L.length = cn nd (L.length - 1) ++ [L.length - 1] := by
      have := cn_yes hN.last
      rwa [← e] at this
    unfold kd
    rw [e2, List.map_append, List.map_singleton, List.getLast?_append]
    simp only [List.getLast?_singleton, Option.some_or]
    rw [List.getLast?_eq_getElem?] at hDl
    have hl2 : D.length = L.length := by simpa using hl
    rw [hl2] at hDl
    rw [List.getD_eq_getElem?_getD, hDl]; rfl
  · have := cn_le nd L.length; unfold kp; simpa using this
  · have := kpS_sum G.length L nd L.length (Nat.le_refl _)
    rw [hk, List.take_length] at this
    exact this
end Go.Proofs.Ythdgmkjjpmigeaa
