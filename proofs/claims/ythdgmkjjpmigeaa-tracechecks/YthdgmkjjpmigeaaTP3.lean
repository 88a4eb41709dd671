/- Plain: what is trimmed. -/
import Derived.Test.YthdgmkjjpmigeaaTP2
namespace Go.Proofs.Ythdgmkjjpmigeaa
open Go.RowKit
set_option linter.unusedSimpArgs false
set_option linter.unusedVariables false

theorem bset {l : List Bool} {i j : Nat} {x : Bool} (hi : i < l.length) : (l.set i x).getD j false = if i = j then x else l.getD j false := by
  rw [List.getD_eq_getElem?_getD, List.getD_eq_getElem?_getD, List.getElem?_set]
  by_cases h : i = j
  · rw [if_pos h, if_pos h, if_pos hi]; rfl
  · rw [if_neg h, if_neg h]
theorem mark_mono (g : Nat) : ∀ (F : List Int) (nd : List Bool) (j : Nat), nd.getD j false = true → (mark g nd F).getD j false = true
  | [], nd, j, h => h
  | x :: F, nd, j, h => by
    show (mark g (mark1 g nd x) F).getD j false = true
    refine mark_mono g F _ j ?_
    unfold mark1
    split
    · by_cases hi : (x - (g : Int)).toNat < nd.length
      · rw [bset hi]; split
        · rfl
        · exact h
      · rw [List.set_eq_of_length_le (by omega)]; exact h
    · exact h
theorem mark_yes (g : Nat) : ∀ (F : List Int) (nd : List Bool) (x : Int), x ∈ F → (g : Int) ≤ x → (x - (g : Int)).toNat < nd.length → (mark g nd F).getD (x - (g : Int)).toNat false = true
  | [], nd, x, h, _, _ => by simp at h
  | y :: F, nd, x, h, hg, hl => by
    show (mark g (mark1 g nd y) F).getD _ false = true
    rcases List.mem_cons.1 h with e | e
    · subst e
      refine mark_mono g F _ _ ?_
      unfold mark1
      rw [if_pos hg, bset hl, if_pos rfl]
    · refine mark_yes g F _ x e hg ?_
      unfold mark1; split <;> simpa using hl
theorem mark_inv (g : Nat) : ∀ (F : List Int) (nd : List Bool) (j : Nat), (∀ x ∈ F, (g : Int) ≤ x → (x - (g : Int)).toNat < nd.length) → (mark g nd F).getD j false = true → nd.getD j false = true ∨ ((g : Int) + (j : Int)) ∈ F
  | [], nd, j, _, h => Or.inl h
  | x :: F, nd, j, hb, h => by
    have h1 : (mark g (mark1 g nd x) F).getD j false = true := h
    rcases mark_inv g F _ j (fun y hy hg => by unfold mark1; split <;> simpa using hb y (by simp [hy]) hg) h1 with e | e
    · unfold mark1 at e
      split at e
      · next hg =>
        rw [bset (hb x (by simp) hg)] at e
        split at e
        · next hj => right; rw [← hj]; simp; left; omega
        · exact Or.inl e
      · exact Or.inl e
    · exact Or.inr (by simp [e])
/-- The steps that are marked: the last one, what marked ones name; each but the last one is named by a later marked one. -/
structure Nd (g : Nat) (L : List (List Int)) (k : Nat) (nd : List Bool) : Prop where
  last : nd.getD (L.length - 1) false = true
  shut : ∀ i F, L.length - k ≤ i → L[i]? = some F → nd.getD i false = true → ∀ x ∈ F, (g : Int) ≤ x → nd.getD (x - (g : Int)).toNat false = true
  why : ∀ j, j + 1 < L.length → nd.getD j false = true → ∃ i F, L.length - k ≤ i ∧ j < i ∧ L[i]? = some F ∧ nd.getD i false = true ∧ ((g : Int) + (j : Int)) ∈ F
theorem nd_of {g : Nat} {L : List (List Int)} (h0 : 0 < L.length) (hA : Ahd g L) : ∀ k, k ≤ L.length → Nd g L k (nedS g L k)
  | 0, _ => by
    have hl : L.length - 1 < (List.replicate L.length false).length := by simp; omega
    refine ⟨?_, fun i F hi hF => ?_, fun j hj hd => ?_⟩
    · unfold nedS; rw [bset hl, if_pos rfl]
    · have := (List.getElem?_eq_some_iff.1 hF).1; omega
    · unfold nedS at hd; rw [bset hl, if_neg (by omega)] at hd
      rw [List.getD_eq_getElem?_getD, List.getElem?_replicate] at hd
      split at hd <;> simp at hd
  | k + 1, hk => by
    have ih := nd_of h0 hA k (by omega)
    have hlen := nedS_len g L k
    unfold nedS
    obtain ⟨F, hF⟩ : ∃ F, L[L.length - 1 - k]? = some F := ⟨_, List.getElem?_eq_getElem (by omega)⟩
    have hFd : L.getD (L.length - 1 - k) [] = F := by rw [List.getD_eq_getElem?_getD, hF]; rfl
    have hbF : ∀ x ∈ F, (g : Int) ≤ x → (x - (g : Int)).toNat < L.length - 1 - k := fun x hx hg => by
      have := hA _ F hF x hx; omega
    split
    · next hd =>
      rw [hFd]
      have hold : ∀ i, L.length - (k + 1) ≤ i → (mark g (nedS g L k) F).getD i false = true → (nedS g L k).getD i false = true := fun i hi h => by
        rcases mark_inv g F _ i (fun x hx hg => by have := hbF x hx hg; omega) h with e | e
        · exact e
        · have := hA _ F hF _ e; omega
      refine ⟨mark_mono g F _ _ ih.last, fun i F' hi hF' hd' x hx hg => ?_, fun j hj hd' => ?_⟩
      · have h1 := hold i hi hd'
        by_cases e : i = L.length - 1 - k
        · subst e
          rw [hF] at hF'; injection hF' with hF'; subst hF'
          exact mark_yes g F _ x hx hg (by have := hbF x hx hg; omega)
        · exact mark_mono g F _ _ (ih.shut i F' (by omega) hF' h1 x hx hg)
      · rcases mark_inv g F _ j (fun x hx hg => by have := hbF x hx hg; omega) hd' with e | e
        · obtain ⟨i, F', h1, h2, h3, h4, h5⟩ := ih.why j hj e
          exact ⟨i, F', by omega, h2, h3, mark_mono g F _ _ h4, h5⟩
        · exact ⟨L.length - 1 - k, F, by omega, by have := hA _ F hF _ e; omega, hF, mark_mono g F _ _ hd, e⟩
    · next hd =>
      refine ⟨ih.last, fun i F' hi hF' hd' x hx hg => ?_, fun j hj hd' => ?_⟩
      · by_cases e : i = L.length - 1 - k
        · subst e; exact absurd hd' hd
        · exact ih.shut i F' (by omega) hF' hd' x hx hg
      · obtain ⟨i, F', h1, h2, h3, h4, h5⟩ := ih.why j hj hd'
        exact ⟨i, F', by omega, h2, h3, h4, h5⟩
/-- The marked ones below k. -/
def cn (nd : List Bool) (k : Nat) : List Nat := (List.range k).filter fun j => nd.getD j false
theorem cn_yes {nd : List Bool} {k : Nat} (h : nd.getD k false = true) : cn nd (k + 1) = cn nd k ++ [k] := by
  unfold cn; rw [List.range_succ, List.filter_append, List.filter_cons_of_pos (by simpa using h), List.filter_nil]
theorem cn_no {nd : List Bool} {k : Nat} (h : ¬ nd.getD k false = true) : cn nd (k + 1) = cn nd k := by
  unfold cn; rw [List.range_succ, List.filter_append, List.filter_cons_of_neg (by simpa using h), List.filter_nil, List.append_nil]
theorem cn_at {nd : List Bool} {j : Nat} (h : nd.getD j false = true) : ∀ k, j < k → (cn nd k)[(cn nd j).length]? = some j
  | 0, hk => by omega
  | k + 1, hk => by
    by_cases e : j = k
    · subst e; rw [cn_yes h]; simp
    · have ih := cn_at h k (by omega)
      by_cases hd : nd.getD k false = true
      · rw [cn_yes hd, List.getElem?_append_left (List.getElem?_eq_some_iff.1 ih).1]; exact ih
      · rw [cn_no hd]; exact ih
theorem cn_lt {nd : List Bool} {j k : Nat} (h : nd.getD j false = true) (hk : j < k) : (cn nd j).length < (cn nd k).length := (List.getElem?_eq_some_iff.1 (cn_at h k hk)).1
theorem cn_inv {nd : List Bool} {c j : Nat} : ∀ {k}, (cn nd k)[c]? = some j → nd.getD j false = true ∧ j < k ∧ c = (cn nd j).length
  | 0, h => by simp [cn] at h
  | k + 1, h => by
    by_cases hd : nd.getD k false = true
    · rw [cn_yes hd] at h
      by_cases hc : c < (cn nd k).length
      · rw [List.getElem?_append_left hc] at h
        obtain ⟨h1, h2, h3⟩ := cn_inv h
        exact ⟨h1, by omega, h3⟩
      · rw [List.getElem?_append_right (by omega)] at h
        have hl : c - (cn nd k).length < 1 := (List.getElem?_eq_some_iff.1 h).1
        have h0 : c - (cn nd k).length = 0 := by omega
        rw [h0] at h; simp at h; subst h
        exact ⟨hd, by omega, by omega⟩
    · rw [cn_no hd] at h
      obtain ⟨h1, h2, h3⟩ := cn_inv h
      exact ⟨h1, by omega, h3⟩
theorem cn_le (nd : List Bool) (k : Nat) : (cn nd k).length ≤ k := by
  unfold cn; have := List.length_filter_le (fun j => nd.getD j false) (List.range k); simpa using this
/-- The new number of a clause. -/
def rn (g : Nat) (nd : List Bool) (x : Int) : Int := if (g : Int) ≤ x then (g : Int) + ((cn nd (x - (g : Int)).toNat).length : Int) else x
/-- What is left of the first k steps. -/
def kp (g : Nat) (L : List (List Int)) (nd : List Bool) (k : Nat) : List (List Int) := (cn nd k).map fun j => (L.getD j []).map (rn g nd)
theorem kp_yes {g : Nat} {L : List (List Int)} {nd : List Bool} {k : Nat} (h : nd.getD k false = true) : kp g L nd (k + 1) = kp g L nd k ++ [(L.getD k []).map (rn g nd)] := by unfold kp; rw [cn_yes h]; simp
theorem kp_no {g : Nat} {L : List (List Int)} {nd : List Bool} {k : Nat} (h : ¬ nd.getD k false = true) : kp g L nd (k + 1) = kp g L nd k := by unfold kp; rw [cn_no h]
theorem isl_getD {L : List (List Int)} {k : Nat} (h : k < L.length) : L[k]? = some (L.getD k []) := by rw [List.getD_eq_getElem?_getD, List.getElem?_eq_getElem h]; rfl
theorem kpS_eq {g : Nat} {L : List (List Int)} {nd : List Bool} (hA : Ahd g L) (hN : Nd g L L.length nd) : ∀ k, k ≤ L.length → (kpS g L nd k).2 = kp g L nd k ∧ ∀ j, j < k → nd.getD j false = true → (kpS g L nd k).1.getD j 0 = (g : Int) + ((cn nd j).length : Int)
  | 0, _ => ⟨rfl, fun j hj => by omega⟩
  | k + 1, hk => by
    obtain ⟨ih1, ih2⟩ := kpS_eq hA hN k (by omega)
    have hlen := (kpS_len g L nd k).1
    unfold kpS
    split
    · next hd =>
      have hkl : (kpS g L nd k).2.length = (cn nd k).length := by rw [ih1]; unfold kp; simp
      refine ⟨?_, fun j hj hd' => ?_⟩
      · rw [kp_yes hd, ih1]
        refine congrArg (fun z => kp g L nd k ++ [z]) (List.map_congr_left fun x hx => ?_)
        have hF := isl_getD (L := L) (k := k) (by omega)
        have hx2 := hA k _ hF x hx
        unfold rn1 rn
        by_cases hg : (g : Int) ≤ x
        · rw [if_pos hg, if_pos hg]
          exact ih2 _ (by omega) (hN.shut k _ (by omega) hF hd x hx hg)
        · rw [if_neg hg, if_neg hg]
      · rw [List.getD_eq_getElem?_getD, List.getElem?_set]
        by_cases e : k = j
        · subst e; rw [if_pos rfl, if_pos (by omega), hkl]; rfl
        · rw [if_neg e, ← List.getD_eq_getElem?_getD]
          exact ih2 j (by omega) hd'
    · next hd =>
      refine ⟨by rw [kp_no hd]; exact ih1, fun j hj hd' => ih2 j ?_ hd'⟩
      by_cases e : j = k
      · subst e; exact absurd hd' hd
      · omega
/-- The clauses that are left. -/
def kd (D : List (List Int)) (nd : List Bool) (k : Nat) : List (List Int) := (cn nd k).map fun j => D.getD j []
theorem clF_kept {G D : List (List Int)} {nd : List Bool} {k : Nat} {x : Int} (hk : k ≤ D.length) (hx : 0 ≤ x ∧ x < (G.length : Int) + (k : Int)) (hc : (G.length : Int) ≤ x → nd.getD (x - (G.length : Int)).toNat false = true) :
    clF G (kd D nd k) (rn G.length nd x) = clF G (D.take k) x := by
  unfold rn
  have hl : (kd D nd k).length = (cn nd k).length := by unfold kd; simp
  have hl2 : (D.take k).length = k := by rw [List.length_take]; omega
  by_cases hg : (G.length : Int) ≤ x
  · rw [if_pos hg]
    have h1 := cn_at (hc hg) k (by omega)
    have h2 := cn_lt (hc hg) (k := k) (by omega)
    unfold clF
    rw [if_neg (by rw [hl]; omega), if_pos (by omega), if_neg (by rw [hl2]; omega), if_pos hg, show ((G.length : Int) + ((cn nd (x - (G.length : Int)).toNat).length : Int) - (G.length : Int)).toNat = (cn nd (x - (G.length : Int)).toNat).length by omega]
    unfold kd
    rw [List.getElem?_map, h1, List.getElem?_take_of_lt (by omega), isl_getD (L := D) (by omega)]
    rfl
  · rw [if_neg hg]
    unfold clF
    rw [if_neg (by omega), if_neg hg, if_neg (by omega), if_neg hg]
theorem goF_kept {G D : List (List Int)} {nd : List Bool} {k : Nat} (hk : k ≤ D.length) : ∀ (F cur : List Int) (b : Bool), (∀ x ∈ F, (0 ≤ x ∧ x < (G.length : Int) + (k : Int)) ∧ ((G.length : Int) ≤ x → nd.getD (x - (G.length : Int)).toNat false = true)) → goF G (kd D nd k) cur b (F.map (rn G.length nd)) = goF G (D.take k) cur b F
  | [], cur, b, _ => rfl
  | n :: F, cur, b, h => by
    have h1 := h n (by simp)
    rw [List.map_cons, goF, goF, clF_kept hk h1.1 h1.2]
    cases clF G (D.take k) n with
    | none => rfl
    | some c => simp only [goF_kept hk F _ _ (fun x hx => h x (by simp [hx]))]
theorem resF_kept {G D : List (List Int)} {nd : List Bool} {k : Nat} (hk : k ≤ D.length) {F : List Int} (h : ∀ x ∈ F, (0 ≤ x ∧ x < (G.length : Int) + (k : Int)) ∧ ((G.length : Int) ≤ x → nd.getD (x - (G.length : Int)).toNat false = true)) : resF G (kd D nd k) (F.map (rn G.length nd)) = resF G (D.take k) F := by
  unfold resF
  by_cases e : F = []
  · subst e; rfl
  · rw [if_neg e, if_neg (by simpa using e), goF_kept hk F _ _ h]
theorem derL_pre {G : List (List Int)} : ∀ {L A D : List (List Int)}, derL G A L = some D → D.take A.length = A ∧ D.length = A.length + L.length ∧ ∀ (k : Nat) F, L[k]? = some F → resF G (D.take (A.length + k)) F = some (D.getD (A.length + k) [])
  | [], A, D, h => by
    rw [derL] at h; injection h with h; subst h
    exact ⟨List.take_length, rfl, fun k F hF => by simp at hF⟩
  | F0 :: L, A, D, h => by
    rw [derL] at h
    split at h
    · cases h
    · next r hr =>
      obtain ⟨h1, h2, h3⟩ := derL_pre h
      rw [List.length_append, List.length_singleton] at h1 h2 h3
      have hA : D.take A.length = A := by
        have := congrArg (List.take A.length) h1
        rw [List.take_take, Nat.min_eq_left (by omega)] at this
        rw [this, List.take_left']
        rfl
      have hr2 : D[A.length]? = some r := by
        have : (D.take (A.length + 1))[A.length]? = some r := by rw [h1]; simp
        rwa [List.getElem?_take_of_lt (by omega)] at this
      refine ⟨hA, by rw [h2, List.length_cons]; omega, fun k F hF => ?_⟩
      cases k with
      | zero =>
        simp at hF; subst hF
        rw [Nat.add_zero, hA, hr, List.getD_eq_getElem?_getD, hr2]; rfl
      | succ k =>
        have := h3 k F (by simpa using hF)
        rw [show A.length + (k + 1) = A.length + 1 + k by omega]
        exact this
theorem derL_snoc {G : List (List Int)} {F r : List Int} : ∀ {L A E : List (List Int)}, derL G A L = some E → resF G E F = some r → derL G A (L ++ [F]) = some (E ++ [r])
  | [], A, E, h, hr => by
    rw [derL] at h; injection h with h; subst h
    rw [List.nil_append, derL, hr]; rfl
  | F0 :: L, A, E, h, hr => by
    rw [derL] at h
    rw [List.cons_append, derL]
    split at h
    · cases h
    · next r0 hr0 =>
      exact derL_snoc h hr
theorem der_kept {G L D : List (List Int)} {nd : List Bool} (hD : derL G [] L = some D) (hA : Ahd G.length L) (hN : Nd G.length L L.length nd) : ∀ k, k ≤ L.length → derL G [] (kp G.length L nd k) = some (kd D nd k)
  | 0, _ => rfl
  | k + 1, hk => by
    have ih := der_kept hD hA hN k (by omega)
    obtain ⟨-, hl, hres⟩ := derL_pre hD
    have hF := isl_getD (L := L) (k := k) (by omega)
    by_cases hd : nd.getD k false = true
    · rw [kp_yes hd]
      have h1 := hres k _ hF
      rw [show ([] : List (List Int)).length + k = k by simp] at h1
      have h2 := derL_snoc (F := (L.getD k []).map (rn G.length nd)) (r := D.getD k []) ih (by
        rw [resF_kept (by simp at hl; omega) (fun x hx => ⟨hA k _ hF x hx, fun hg => hN.shut k _ (by omega) hF hd x hx hg⟩)]
        exact h1)
      rw [h2]
      unfold kd; rw [cn_yes hd]; simp
    · rw [kp_no hd, ih]
      unfold kd; rw [cn_no hd]
end Go.Proofs.Ythdgmkjjpmigeaa
