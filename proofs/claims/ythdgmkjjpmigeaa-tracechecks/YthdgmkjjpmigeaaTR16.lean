/- Contracts (traces): refutation, Check. -/
import Derived.Test.YthdgmkjjpmigeaaTR15
namespace Go.Proofs.Ythdgmkjjpmigeaa
open Go.RowKit
set_option linter.unusedSimpArgs false
set_option linter.unusedVariables false

/-- The steps of a trace that comes to the empty clause, or why it doesn't. -/
def rfF (G : List (List Int)) (b : List Int) : List (List Int) × Int :=
  if (decF b).2 ≠ 0 then ([], (decF b).2)
  else if (derF G (decF b).1).2 ≠ 0 then ([], (derF G (decF b).1).2)
  else match (derF G (decF b).1).1.getLast? with
    | some [] => ((decF b).1, 0)
    | _ => ([], 122)
theorem numsF_w {b : List Int} (h : byts b) : ∀ x ∈ numsF b, w64 x := fun x hx => by
  unfold numsF at hx
  obtain ⟨j, -, rfl⟩ := List.mem_map.1 hx
  have := prt_le h j 4
  have e : (256 : Int) ^ 4 = 4294967296 := by decide
  rw [e] at this
  unfold w64
  omega
theorem cutF_sub (P : Int → Prop) : ∀ (k : Nat) (C : List (List Int)) (l : List Int), (∀ x ∈ l, P x) → (∀ c ∈ C, ∀ x ∈ c, P x) → ∀ c ∈ (cutF k C l).1, ∀ x ∈ c, P x
  | 0, C, l, _, hC => hC
  | k + 1, C, [], _, hC => fun c hc => by simp [cutF] at hc
  | k + 1, C, y :: r, hl, hC => by
    unfold cutF
    split
    · intro c hc; simp at hc
    · refine cutF_sub P k _ _ (fun x hx => hl x (List.mem_cons_of_mem _ (List.mem_of_mem_drop hx))) fun c hc => ?_
      rcases List.mem_append.1 hc with e | e
      · exact hC c e
      · rw [List.mem_singleton.1 e]
        exact fun x hx => hl x (List.mem_cons_of_mem _ (List.mem_of_mem_take hx))
theorem cutF_len : ∀ (k : Nat) (C : List (List Int)) (l : List Int), (cutF k C l).1.length + ((cutF k C l).1.map List.length).sum ≤ C.length + (C.map List.length).sum + l.length
  | 0, C, l => by simp [cutF]
  | k + 1, C, [] => by simp [cutF]
  | k + 1, C, y :: r => by
    unfold cutF
    split
    · simp
    · have := cutF_len k (C ++ [r.take y.toNat]) (r.drop y.toNat)
      simp at this ⊢
      omega
theorem decF_len (b : List Int) : (decF b).1.length + ((decF b).1.map List.length).sum ≤ b.length / 4 := by
  unfold decF
  split
  · simp
  · unfold decN
    split
    · simp
    · have hl := numsF_len (b.drop 4)
      rw [List.length_drop] at hl
      split
      · simp
      · rename_i m r e
        split
        · have := cutF_len m.toNat [] r
          rw [e] at hl
          simp at hl this ⊢
          omega
        · simp
theorem decF_w {b : List Int} (h : byts b) : ∀ c ∈ (decF b).1, ∀ x ∈ c, w64 x := by
  unfold decF
  split
  · intro c hc; simp at hc
  · unfold decN
    split
    · intro c hc; simp at hc
    · split
      · intro c hc; simp at hc
      · rename_i m r e
        split
        · refine cutF_sub w64 _ _ _ (fun x hx => numsF_w (byts_drop h 4) x (by rw [e]; simp [hx])) (fun c hc => by simp at hc)
        · intro c hc; simp at hc
theorem derL_le (G : List (List Int)) : ∀ (L D E : List (List Int)), derL G D L = some E → E.length = D.length + L.length
  | [], D, E, e => by rw [derL] at e; injection e with e; rw [e]; rfl
  | F :: L, D, E, e => by
    rw [derL] at e
    split at e
    · cases e
    · have := derL_le G L _ E e
      simp at this ⊢
      omega
theorem derF_le (G L : List (List Int)) : (derF G L).1.length ≤ L.length := by
  unfold derF
  split
  · rename_i D e
    have := derL_le G L [] D e
    simp at this ⊢
    omega
  · simp
set_option maxRecDepth 20000 in
set_option maxHeartbeats 6400000 in
theorem refutation_any {w : World} {vg vb : Value} {G : List (List Int)} {b : List Int} (hG : Lr w vg G) (hb : Br w vb b) (gG : G.length + (G.map List.length).sum ≤ 2000) (gb : b.length ≤ 6000) :
    Calls Try.prog 45 #[vg, vb] w fun ev w' => ∃ v', ev = .returned (.tuple #[v', .int .i64 (rfF G b).2]) ∧ Lr w' v' (rfF G b).1 ∧ Below w.heap.size w w' := by
  obtain ⟨Z, hZ⟩ : ∃ Z, Z = rfF G b := ⟨_, rfl⟩
  rw [← hZ]
  have HZ : Hid _ := hZ
  have HG : Hid (Lr w vg G) := hG
  have HDE : Hid _ := decode_any hb (by omega)
  have HDL : Hid ((decF b).1.length + ((decF b).1.map List.length).sum ≤ 2000) := by have := decF_len b; unfold Hid; omega
  have HDW : Hid (∀ c ∈ (decF b).1, ∀ x ∈ c, w64 x) := decF_w hb.byte
  obtain ⟨ag, cg, rfl⟩ := hG.out
  obtain ⟨ab, cb, rfl, -⟩ := hb.out
  obtain ⟨Y, hY⟩ : ∃ Y, Y = decF b := ⟨_, rfl⟩
  have HY : Hid _ := hY
  rw [← hY] at HDE HDL HDW
  obtain ⟨ng, hng⟩ : ∃ n, n = G.length := ⟨_, rfl⟩
  obtain ⟨nb, hnb⟩ : ∃ n, n = b.length := ⟨_, rfl⟩
  rw [← hng] at HG ⊢
  rw [← hnb] at HDE ⊢
  have HGB : Hid (G.length + (G.map List.length).sum ≤ 2000) := gG
  clear hG hb hZ hY hng hnb gG gb
  obtain ⟨LS, e⟩ := Y
  go_enter Try.func45, Try.ntmps45
  go_wp2_with fail
  refine Calls.mono HDE.out ?_
  rintro ev w1 ⟨v1, rfl, hL1, hb1⟩
  have HB1 : Hid (Below w.heap.size w w1) := hb1
  have HL1 : Hid (Lr w1 v1 LS) := hL1
  obtain ⟨a1, c1, e1⟩ := hL1.out
  obtain ⟨n1, hn1⟩ : ∃ n, n = LS.length := ⟨_, rfl⟩
  rw [← hn1] at e1
  subst e1
  clear hL1 hb1 HDE hn1
  by_cases he : e = 0
  · subst he
    have HDR : Hid _ := derive_any (HG.out.below HB1.out) HL1.out HGB.out (by have h9 : LS.length + (LS.map List.length).sum ≤ 2000 := HDL.out; omega) (fun x hx => ⟨by have h9 : LS.length + (LS.map List.length).sum ≤ 2000 := HDL.out; have := len_sum hx; omega, HDW.out x hx⟩)
    obtain ⟨X, hX⟩ : ∃ X, X = derF G LS := ⟨_, rfl⟩
    rw [← hX] at HDR
    have HZ2 : Hid (Z = if X.2 ≠ 0 then ([], X.2) else match X.1.getLast? with | some [] => (LS, 0) | _ => ([], 122)) := by
      unfold Hid
      rw [HZ.out]; unfold rfF; rw [← HY.out, hX]; simp
    have HXL : Hid (X.1.length ≤ 2000) := by
      have h1 := derF_le G LS
      have h9 : LS.length + (LS.map List.length).sum ≤ 2000 := HDL.out
      unfold Hid; rw [hX]; omega
    clear hX
    obtain ⟨DD, f⟩ := X
    go_wp2_with fail
    refine Calls.mono HDR.out ?_
    rintro ev w2 ⟨v2, rfl, hL2, hb2⟩
    have HB2 : Hid (Below w.heap.size w w2) := HB1.out.trans (hb2.mono HB1.out.size)
    have HL2 : Hid (Lr w2 v2 DD) := hL2
    have HL3 : Hid (Lr w2 (.slice a1 n1 c1) LS) := HL1.out.below hb2
    obtain ⟨a2, c2, e2⟩ := hL2.out
    obtain ⟨n2, hn2⟩ : ∃ n, n = DD.length := ⟨_, rfl⟩
    rw [← hn2] at e2
    subst e2
    have HN2 : Hid _ := hn2
    clear hL2 hb2 HDR hn2
    by_cases hf : f = 0
    · subst hf
      have HZ3 : Hid (Z = match DD.getLast? with | some [] => (LS, 0) | _ => ([], 122)) := by unfold Hid; rw [HZ2.out]; simp
      rcases DD.eq_nil_or_concat with hd | ⟨D0, d, hd⟩
      · subst hd
        have HZZ : Hid (Z = ([], 122)) := by unfold Hid; rw [HZ3.out]; rfl
        obtain rfl : n2 = 0 := HN2.out
        go_wp2_with fail
        go_ret2
        rw [HZZ.out]
        exact ⟨_, rfl, ⟨_, _, rfl, Or.inl rfl⟩, HB2.out⟩
      · have hlast : DD[n2 - 1]? = some d := by
          rw [HN2.out, hd]; simp
        have hn2p : 0 < n2 := by rw [HN2.out, hd]; simp
        obtain ⟨j, hj⟩ : ∃ j, n2 = j + 1 := ⟨n2 - 1, by omega⟩
        rw [hj, Nat.add_sub_cancel] at hlast
        have HGL : Hid (DD.getLast? = some d) := by unfold Hid; rw [hd]; simp
        have hn2b : n2 ≤ 2000 := by
          have h9 : DD.length ≤ 2000 := HXL.out
          rw [HN2.out]; exact h9
        obtain ⟨r, o, u, rfl, hcu, hSu⟩ := HL2.out.at' hlast
        obtain ⟨au, nu, ku, hue, hnu⟩ := hSu.sl
        subst hue
        have hro : r < w2.heap.size := World.block_lt_of_cell? _ _ hcu
        have HNU : Hid (nu = d.length) := hnu
        have hjI : ¬ (j : Int) < 0 := by omega
        have hjd : decide ((j : Int) < 0) = false := decide_eq_false hjI
        subst hj
        clear hnu hlast hd
        by_cases hnu0 : nu = 0
        · have HZZ : Hid (Z = (LS, 0)) := by
            have e9 : d = [] := List.eq_nil_of_length_eq_zero (by rw [← HNU.out]; exact hnu0)
            unfold Hid; rw [HZ3.out, HGL.out, e9]
          subst hnu0
          go_wp2_with fail
          go_ret2
          rw [HZZ.out]
          exact ⟨_, rfl, HL3.out, HB2.out⟩
        · have HZZ : Hid (Z = ([], 122)) := by
            have e9 : d ≠ [] := fun e => hnu0 (by rw [HNU.out, e]; rfl)
            unfold Hid; rw [HZ3.out, HGL.out]
            cases d with
            | nil => exact absurd rfl e9
            | cons y t => rfl
          have hnuI : (0 : Int) < (nu : Int) := by omega
          have hnuN : 0 < nu := by omega
          go_wp2_with fail
          go_ret2
          rw [HZZ.out]
          exact ⟨_, rfl, ⟨_, _, rfl, Or.inl rfl⟩, HB2.out⟩
    · have HZZ : Hid (Z = ([], f)) := by unfold Hid; rw [HZ2.out, if_pos hf]
      have hfb : (f == 0) = false := by simp [hf]
      have hfc : (f != 0) = true := by simp [hf]
      go_wp2_with fail
      go_ret2
      rw [HZZ.out]
      exact ⟨_, rfl, ⟨_, _, rfl, Or.inl rfl⟩, HB2.out⟩
  · have HZZ : Hid (Z = ([], e)) := by unfold Hid; rw [HZ.out]; unfold rfF; rw [← HY.out, if_pos he]
    have heb : (e == 0) = false := by simp [he]
    have hec : (e != 0) = true := by simp [he]
    go_wp2_with fail
    go_ret2
    rw [HZZ.out]
    exact ⟨_, rfl, ⟨_, _, rfl, Or.inl rfl⟩, HB1.out⟩
/-- What Check answers. -/
def chkF (G : List (List Int)) (b : List Int) : Int := (rfF G b).2
theorem check_any {w : World} {vg vb : Value} {G : List (List Int)} {b : List Int} (hG : Lr w vg G) (hb : Br w vb b) (gG : G.length + (G.map List.length).sum ≤ 2000) (gb : b.length ≤ 6000) :
    Calls Try.prog 25 #[vg, vb] w fun ev w' => ev = .returned (.int .i64 (chkF G b)) ∧ Below w.heap.size w w' := by
  have HR : Hid _ := refutation_any hG hb gG gb
  obtain ⟨Z, hZ⟩ : ∃ Z, Z = chkF G b := ⟨_, rfl⟩
  have e : (rfF G b).2 = Z := hZ.symm
  rw [e] at HR
  rw [← hZ]
  obtain ⟨ag, cg, rfl⟩ := hG.out
  obtain ⟨ab, cb, rfl, -⟩ := hb.out
  obtain ⟨ng, hng⟩ : ∃ n, n = G.length := ⟨_, rfl⟩
  obtain ⟨nb, hnb⟩ : ∃ n, n = b.length := ⟨_, rfl⟩
  rw [← hng, ← hnb] at HR ⊢
  clear hG hb gG gb hZ e hng hnb
  go_enter Try.func25, Try.ntmps25
  go_wp2_with fail
  refine Calls.mono HR.out ?_
  rintro ev w1 ⟨v1, rfl, hL1, hb1⟩
  obtain ⟨a1, c1, e1⟩ := hL1.out
  obtain ⟨n1, hn1⟩ : ∃ n, n = (rfF G b).1.length := ⟨_, rfl⟩
  rw [← hn1] at e1
  subst e1
  have HB1 : Hid (Below w.heap.size w w1) := hb1
  clear hL1 hb1 hn1
  go_wp2_with fail
  go_ret
  exact ⟨rfl, HB1.out⟩
end Go.Proofs.Ythdgmkjjpmigeaa
