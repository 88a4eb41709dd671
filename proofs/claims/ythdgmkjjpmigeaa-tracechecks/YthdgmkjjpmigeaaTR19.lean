/- Contracts (traces): Trim. -/
import Derived.Test.YthdgmkjjpmigeaaTR18
namespace Go.Proofs.Ythdgmkjjpmigeaa
open Go.RowKit
set_option linter.unusedSimpArgs false
set_option linter.unusedVariables false

theorem clF_in {G D : List (List Int)} {x : Int} {c : List Int} (h : clF G D x = some c) : 0 ≤ x ∧ x < (G.length : Int) + (D.length : Int) := by
  unfold clF at h
  split at h
  · cases h
  · omega
theorem goF_in {G D : List (List Int)} : ∀ {F cur : List Int} {b : Bool} {r : List Int}, goF G D cur b F = some r → ∀ x ∈ F, 0 ≤ x ∧ x < (G.length : Int) + (D.length : Int)
  | [], _, _, _, _ => fun x hx => absurd hx (by simp)
  | n :: F, cur, b, r, e => by
    rw [goF] at e
    split at e
    · cases e
    · rename_i c hc
      have h1 := clF_in hc
      have key : ∀ {cur' : List Int} {b' : Bool}, goF G D cur' b' F = some r → ∀ x ∈ n :: F, 0 ≤ x ∧ x < (G.length : Int) + (D.length : Int) := fun e' x hx => by
        rcases List.mem_cons.1 hx with e2 | e2
        · rw [e2]; exact h1
        · exact goF_in e' x e2
      split at e
      · exact key e
      · split at e
        · exact key e
        · cases e
theorem resF_in {G D : List (List Int)} {F r : List Int} (e : resF G D F = some r) : ∀ x ∈ F, 0 ≤ x ∧ x < (G.length : Int) + (D.length : Int) := by
  unfold resF at e
  split at e
  · cases e
  · exact goF_in e
theorem derL_in {G : List (List Int)} : ∀ {L D E : List (List Int)}, derL G D L = some E → ∀ (k : Nat) F, L[k]? = some F → ∀ x ∈ F, 0 ≤ x ∧ x < (G.length : Int) + (D.length : Int) + (k : Int)
  | [], D, E, _, k, F, h => by simp at h
  | F0 :: L, D, E, e, k, F, h => by
    rw [derL] at e
    split at e
    · cases e
    · rename_i r hr
      cases k with
      | zero =>
        obtain rfl : F0 = F := by simpa using h
        intro x hx
        have := resF_in hr x hx
        omega
      | succ k =>
        intro x hx
        have := derL_in e k F (by simpa using h) x hx
        rw [List.length_append] at this
        simp at this
        omega
theorem rfF_ahd {G : List (List Int)} {b : List Int} (h : (rfF G b).2 = 0) : Ahd G.length (rfF G b).1 ∧ 0 < (rfF G b).1.length ∧ (rfF G b).1 = (decF b).1 := by
  unfold rfF at h ⊢
  split at h
  · rename_i h1; exact absurd h h1
  · rename_i h1
    split at h
    · rename_i h2; exact absurd h h2
    · rename_i h2
      rw [if_neg h1, if_neg h2]
      split at h
      · rename_i hl
        unfold derF at hl
        split at hl
        · rename_i D e
          refine ⟨fun k F hF x hx => ?_, ?_, rfl⟩
          · have := derL_in e k F hF x hx
            simpa using this
          · have h3 := derL_le G _ [] D e
            have h4 : D ≠ [] := fun e2 => by rw [e2] at hl; simp at hl
            have h5 := List.length_pos_iff.2 h4
            simp at h3
            show 0 < (decF b).1.length
            omega
        · simp at hl
      · exact absurd h (by decide)
theorem map_sum (f : Int → Int) (F : List Int) : (F.map f).length = F.length := by simp
theorem kpS_sum (g : Nat) (L : List (List Int)) (nd : List Bool) : ∀ k, k ≤ L.length → (kpS g L nd k).2.length + ((kpS g L nd k).2.map List.length).sum ≤ k + ((L.take k).map List.length).sum
  | 0, _ => by simp [kpS]
  | k + 1, hk => by
    have ih := kpS_sum g L nd k (by omega)
    have hx : L[k]? = some (L.getD k []) := by rw [List.getD_eq_getElem?_getD, List.getElem?_eq_getElem (by omega)]; rfl
    have h1 := sum_take hx
    unfold kpS
    split
    · simp only [List.length_append, List.map_append, List.sum_append, List.length_cons, List.length_nil, List.map_cons, List.map_nil, List.sum_cons, List.sum_nil, List.length_map]
      omega
    · omega
/-- What Trim answers. -/
def trmF (G : List (List Int)) (b : List Int) : List Int × Int :=
  if (rfF G b).2 ≠ 0 then ([], (rfF G b).2)
  else encF (kpS G.length (rfF G b).1 (nedS G.length (rfF G b).1 (rfF G b).1.length) (rfF G b).1.length).2
set_option maxRecDepth 20000 in
set_option maxHeartbeats 6400000 in
theorem trim_any {w : World} {vg vb : Value} {G : List (List Int)} {b : List Int} (hG : Lr w vg G) (hb : Br w vb b) (gG : G.length + (G.map List.length).sum ≤ 2000) (gb : b.length ≤ 6000) :
    Calls Try.prog 23 #[vg, vb] w fun ev w' => ∃ v', ev = .returned (.tuple #[v', .int .i64 (trmF G b).2]) ∧ Br w' v' (trmF G b).1 ∧ Below w.heap.size w w' := by
  have HR : Hid _ := refutation_any hG hb gG gb
  obtain ⟨Z, hZ⟩ : ∃ Z, Z = trmF G b := ⟨_, rfl⟩
  rw [← hZ]
  have HZ : Hid _ := hZ
  have HAH : Hid ((rfF G b).2 = 0 → Ahd G.length (rfF G b).1 ∧ 0 < (rfF G b).1.length ∧ (rfF G b).1 = (decF b).1) := rfF_ahd
  have HDL : Hid ((decF b).1.length + ((decF b).1.map List.length).sum ≤ 2000) := by have := decF_len b; unfold Hid; omega
  obtain ⟨Y, hY⟩ : ∃ Y, Y = rfF G b := ⟨_, rfl⟩
  have HZ1 : Hid (Z = if Y.2 ≠ 0 then ([], Y.2) else encF (kpS G.length Y.1 (nedS G.length Y.1 Y.1.length) Y.1.length).2) := by
    unfold Hid; rw [hZ, hY]; rfl
  rw [← hY] at HR HAH
  obtain ⟨ag, cg, rfl⟩ := hG.out
  obtain ⟨ab, cb, rfl, -⟩ := hb.out
  obtain ⟨ng, hng⟩ : ∃ n, n = G.length := ⟨_, rfl⟩
  obtain ⟨nb, hnb⟩ : ∃ n, n = b.length := ⟨_, rfl⟩
  have hgb : ng ≤ 2000 := by omega
  rw [← hng] at HR HAH HZ1 ⊢
  rw [← hnb] at HR ⊢
  clear hG hb gG gb hZ hY hng hnb HZ
  obtain ⟨LS, e⟩ := Y
  go_enter Try.func23, Try.ntmps23
  go_wp2_with fail
  refine Calls.mono HR.out ?_
  rintro ev w1 ⟨v1, rfl, hL1, hb1⟩
  have HB1 : Hid (Below w.heap.size w w1) := hb1
  have HL1 : Hid (Lr w1 v1 LS) := hL1
  obtain ⟨a1, c1, e1⟩ := hL1.out
  obtain ⟨n1, hn1⟩ : ∃ n, n = LS.length := ⟨_, rfl⟩
  rw [← hn1] at e1
  subst e1
  have HN1 : Hid (n1 = LS.length) := hn1
  clear hL1 hb1 HR hn1
  by_cases he : e = 0
  · subst he
    obtain ⟨hA, h0, hD⟩ := HAH.out rfl
    have hA' : Ahd ng LS := hA
    have h0' : 0 < LS.length := h0
    have hD' : LS = (decF b).1 := hD
    have HSU : Hid (LS.length + (LS.map List.length).sum ≤ 2000) := by unfold Hid; rw [hD']; exact HDL.out
    have hn1b : n1 ≤ 2000 := by have := HSU.out; have := HN1.out; omega
    have hFl : ∀ F ∈ LS, F.length ≤ 2000 := fun F hF => by have := len_sum hF; have := HSU.out; omega
    have HAA : Hid (Ahd ng LS ∧ ∀ F ∈ LS, F.length ≤ 2000) := ⟨hA', hFl⟩
    have HNE : Hid _ := needed_any HL1.out HN1.out (by rw [HN1.out]; exact h0') hn1b hFl hgb hA'
    have HZ2 : Hid (Z = encF (kpS ng LS (nedS ng LS n1) n1).2) := by
      unfold Hid; rw [HZ1.out, HN1.out]; simp
    clear hA h0 hD hA' h0' hD' hFl
    go_wp2_with fail
    refine Calls.mono HNE.out ?_
    rintro ev w2 ⟨T, rfl, hB2, hb2⟩
    have HL2 : Hid (Lr w2 (.slice a1 n1 c1) LS) := HL1.out.below hb2
    have HB2 : Hid (Below w.heap.size w w2) := HB1.out.trans (hb2.mono HB1.out.size)
    have hTl : T < w2.heap.size := (World.ownsRow.lt hB2.row T rfl).2
    have HKE : Hid _ := keep_any HL2.out HN1.out hn1b HAA.out.2 hgb HAA.out.1 (N := T) (nd := nedS ng LS n1) (fun k hk => (hB2.put (j := k) (by rw [nedS_len, ← HN1.out]; exact hk)).1) hTl
    clear hB2 hb2 HNE hTl
    go_wp2_with fail
    refine Calls.mono HKE.out ?_
    rintro ev w3 ⟨v3, rfl, hL3, hb3⟩
    have HB3 : Hid (Below w.heap.size w w3) := HB2.out.trans (hb3.mono HB2.out.size)
    have HEN : Hid _ := encode_any hL3 (by
      have h1 := kpS_sum ng LS (nedS ng LS n1) n1 (by rw [HN1.out]; exact Nat.le_refl _)
      have h2 := sum_le (C := LS) n1
      have := HSU.out
      have := HN1.out
      omega)
    rw [← HZ2.out] at HEN
    clear hL3 hb3 HKE
    go_wp2_with fail
    refine Calls.mono HEN.out ?_
    rintro ev w4 ⟨v4, rfl, hB4, hb4⟩
    have HE : Hid (Br w4 v4 Z.1 ∧ Below w.heap.size w w4) := ⟨hB4, HB3.out.trans (hb4.mono HB3.out.size)⟩
    clear hB4 hb4 HEN
    go_wp2_with fail
    go_ret2
    exact ⟨_, rfl, HE.out.1, HE.out.2⟩
  · have HZZ : Hid (Z = ([], e)) := by unfold Hid; rw [HZ1.out, if_pos he]
    have heb : (e == 0) = false := by simp [he]
    have hec : (e != 0) = true := by simp [he]
    go_wp2_with fail
    go_ret2
    rw [HZZ.out]
    exact ⟨_, rfl, ⟨⟨_, _, rfl, Nat.zero_le _, Or.inl rfl⟩, fun x hx => (by simp at hx)⟩, HB1.out⟩
end Go.Proofs.Ythdgmkjjpmigeaa
