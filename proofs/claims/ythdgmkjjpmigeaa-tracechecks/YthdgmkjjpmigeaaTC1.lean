/- Contracts (the document's clauses): Check. -/
import Derived.Test.YthdgmkjjpmigeaaTD3
import Derived.Test.YthdgmkjjpmigeaaTP8
namespace Go.Proofs.Ythdgmkjjpmigeaa
open Go.RowKit
set_option linter.unusedSimpArgs false
set_option linter.unusedVariables false

set_option maxRecDepth 20000 in
set_option maxHeartbeats 6400000 in
theorem rcheck_any {w : World} {vg vb : Value} {G : List (List Int)} {b : List Int} (hG : Lr w vg G) (hb : Br w vb b) (gG : G.length + (G.map List.length).sum ≤ 2000) (gb : b.length ≤ 6000) :
    Calls Try.prog 26 #[vg, vb] w fun ev w' => ev = .returned (.int .i64 (chkF G b)) ∧ Below w.heap.size w w' := by
  show Calls Try.prog _ _ _ fun ev w' => ev = .returned (.int .i64 (rfF G b).2) ∧ Below w.heap.size w w'
  obtain ⟨Z, hZ⟩ : ∃ Z, Z = rfF G b := ⟨_, rfl⟩
  rw [← hZ]
  have HZ : Hid _ := hZ
  have HG : Hid (Lr w vg G) := hG
  have HDE : Hid _ := rdecode_any hb (by omega)
  rw [dec_same hb.byte (by omega)] at HDE
  have HDL : Hid ((decF b).1.length + ((decF b).1.map List.length).sum ≤ 2000) := by have := decF_len b; unfold Hid; omega
  have HDW : Hid (∀ c ∈ (decF b).1, ∀ x ∈ c, w64 x) := decF_w hb.byte
  obtain ⟨ag, cg, rfl⟩ := hG.out
  obtain ⟨ab, cb, rfl, -⟩ := hb.out
  obtain ⟨Y, hY⟩ : ∃ Y, Y = decF b := ⟨_, rfl⟩
  have HY : Hid _ := hY
  rw [← hY] at HDE HDL HDW
  obtain ⟨ng, hng⟩ : ∃ n, n = G.length := ⟨_, rfl⟩
  obtain ⟨nb, hnb⟩ : ∃ n, n = b.length := ⟨_, rfl⟩
  rw [← hng] at HG ⊢
  rw [← hnb] at HDE ⊢
  have HGB : Hid (G.length + (G.map List.length).sum ≤ 2000) := gG
  clear hG hb hZ hY hng hnb gG gb
  obtain ⟨LS, e⟩ := Y
  go_enter Try.func26, Try.ntmps26
  go_wp2_with fail
  refine Calls.mono HDE.out ?_
  rintro ev w1 ⟨v1, rfl, hL1, hb1⟩
  have HB1 : Hid (Below w.heap.size w w1) := hb1
  have HL1 : Hid (Lr w1 v1 LS) := hL1
  obtain ⟨a1, c1, e1⟩ := hL1.out
  obtain ⟨n1, hn1⟩ : ∃ n, n = LS.length := ⟨_, rfl⟩
  rw [← hn1] at e1
  subst e1
  clear hL1 hb1 HDE hn1
  by_cases he : e = 0
  · subst he
    have HDR : Hid _ := rderive_any (HG.out.below HB1.out) HL1.out HGB.out (by have h9 : LS.length + (LS.map List.length).sum ≤ 2000 := HDL.out; omega) (fun x hx => ⟨by have h9 : LS.length + (LS.map List.length).sum ≤ 2000 := HDL.out; have := len_sum hx; omega, HDW.out x hx⟩)
    obtain ⟨X, hX⟩ : ∃ X, X = derF G LS := ⟨_, rfl⟩
    rw [← hX] at HDR
    have HZ2 : Hid (Z = if X.2 ≠ 0 then ([], X.2) else match X.1.getLast? with | some [] => (LS, 0) | _ => ([], 122)) := by
      unfold Hid
      rw [HZ.out]; unfold rfF; rw [← HY.out, hX]
      by_cases h9 : (derF G LS).2 = 0
      · simp only [h9, ne_eq, not_true_eq_false, if_false]
        cases (derF G LS).1.getLast? with
        | none => rfl
        | some d => cases d <;> rfl
      · simp [h9]
    have HXL : Hid (X.1.length ≤ 2000) := by
      have h1 := derF_le G LS
      have h9 : LS.length + (LS.map List.length).sum ≤ 2000 := HDL.out
      unfold Hid; rw [hX]; omega
    clear hX
    obtain ⟨DD, f⟩ := X
    go_wp2_with fail
    refine Calls.mono HDR.out ?_
    rintro ev w2 ⟨v2, rfl, hL2, hb2⟩
    have HB2 : Hid (Below w.heap.size w w2) := HB1.out.trans (hb2.mono HB1.out.size)
    have HL2 : Hid (Lr w2 v2 DD) := hL2
    have HL3 : Hid (Lr w2 (.slice a1 n1 c1) LS) := HL1.out.below hb2
    obtain ⟨a2, c2, e2⟩ := hL2.out
    obtain ⟨n2, hn2⟩ : ∃ n, n = DD.length := ⟨_, rfl⟩
    rw [← hn2] at e2
    subst e2
    have HN2 : Hid _ := hn2
    clear hL2 hb2 HDR hn2
    by_cases hf : f = 0
    · subst hf
      have HZ3 : Hid (Z = match DD.getLast? with | some [] => (LS, 0) | _ => ([], 122)) := by unfold Hid; rw [HZ2.out]; simp
      rcases DD.eq_nil_or_concat with hd | ⟨D0, d, hd⟩
      · subst hd
        have HZZ : Hid (Z = ([], 122)) := by unfold Hid; rw [HZ3.out]; rfl
        obtain rfl : n2 = 0 := HN2.out
        go_wp2_with fail
        go_ret
        rw [HZZ.out]
        exact ⟨rfl, HB2.out⟩
      · have hlast : DD[n2 - 1]? = some d := by
          rw [HN2.out, hd]; simp
        have hn2p : 0 < n2 := by rw [HN2.out, hd]; simp
        obtain ⟨j, hj⟩ : ∃ j, n2 = j + 1 := ⟨n2 - 1, by omega⟩
        rw [hj, Nat.add_sub_cancel] at hlast
        have HGL : Hid (DD.getLast? = some d) := by unfold Hid; rw [hd]; simp
        have hn2b : n2 ≤ 2000 := by
          have h9 : DD.length ≤ 2000 := HXL.out
          rw [HN2.out]; exact h9
        obtain ⟨r, o, u, rfl, hcu, hSu⟩ := HL2.out.at' hlast
        obtain ⟨au, nu, ku, hue, hnu⟩ := hSu.sl
        subst hue
        have hro : r < w2.heap.size := World.block_lt_of_cell? _ _ hcu
        have HNU : Hid (nu = d.length) := hnu
        have hjI : ¬ (j : Int) < 0 := by omega
        have hjd : decide ((j : Int) < 0) = false := decide_eq_false hjI
        subst hj
        clear hnu hlast hd
        by_cases hnu0 : nu = 0
        · have HZZ : Hid (Z = (LS, 0)) := by
            have e9 : d = [] := List.eq_nil_of_length_eq_zero (by rw [← HNU.out]; exact hnu0)
            unfold Hid; rw [HZ3.out, HGL.out, e9]
          subst hnu0
          go_wp2_with fail
          go_ret
          rw [HZZ.out]
          exact ⟨rfl, HB2.out⟩
        · have HZZ : Hid (Z = ([], 122)) := by
            have e9 : d ≠ [] := fun e => hnu0 (by rw [HNU.out, e]; rfl)
            unfold Hid; rw [HZ3.out, HGL.out]
            cases d with
            | nil => exact absurd rfl e9
            | cons y t => rfl
          have hnuI : (0 : Int) < (nu : Int) := by omega
          have hnuN : 0 < nu := by omega
          go_wp2_with fail
          go_ret
          rw [HZZ.out]
          exact ⟨rfl, HB2.out⟩
    · have HZZ : Hid (Z = ([], f)) := by unfold Hid; rw [HZ2.out, if_pos hf]
      have hfb : (f == 0) = false := by simp [hf]
      have hfc : (f != 0) = true := by simp [hf]
      go_wp2_with fail
      go_ret
      rw [HZZ.out]
      exact ⟨rfl, HB2.out⟩
  · have HZZ : Hid (Z = ([], e)) := by unfold Hid; rw [HZ.out]; unfold rfF; rw [← HY.out, if_pos he]
    have heb : (e == 0) = false := by simp [he]
    have hec : (e != 0) = true := by simp [he]
    go_wp2_with fail
    go_ret
    rw [HZZ.out]
    exact ⟨rfl, HB1.out⟩
end Go.Proofs.Ythdgmkjjpmigeaa
