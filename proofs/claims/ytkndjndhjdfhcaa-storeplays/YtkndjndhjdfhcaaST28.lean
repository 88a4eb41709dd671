/- Contracts (store's walk): all. -/
import Derived.Test.YtkndjndhjdfhcaaST27
namespace Go.Proofs.Ytkndjndhjdfhcaa
open Go.RowKit
set_option linter.unusedSimpArgs false
set_option linter.unusedVariables false

/-- What is told of following lits: T: what is true; r: the end. -/
def FolR (C : List (List Int)) (lits T : List Int) (r : Int) : Prop :=
  ∃ k, k ≤ lits.length ∧ Der C (lits.take k) T ∧ (∀ x ∈ T, isL x = true) ∧ T.Nodup ∧ (∀ x ∈ T, -x ∉ T) ∧ (∀ x ∈ lits.take k, x ∈ T) ∧
  ((r = -1 ∧ k = lits.length ∧ Clo C T) ∨ (r = -2 ∧ Clo C T ∧ ∃ x, lits[k]? = some x ∧ (isL x = false ∨ -x ∈ T)) ∨
    ∃ (i : Nat) (c : List Int), r = (i : Int) ∧ C[i]? = some c ∧ (∀ y ∈ c, -y ∈ T) ∧ (k = 0 ∨ ∃ T0 x, T0 <+: T ∧ Clo C T0 ∧ lits[k - 1]? = some x ∧ isL x = true ∧ -x ∉ T0 ∧ ∀ y ∈ lits.take (k - 1), y ∈ T0))
theorem take_sub {L : List Int} {k : Nat} : ∀ x ∈ L.take k, x ∈ L.take (k + 1) := by
  intro x hx
  rw [List.take_add_one]
  exact List.mem_append_left _ hx
set_option maxRecDepth 20000 in
set_option maxHeartbeats 25600000 in
theorem all_any {w0 w : World} {F0 : Nat → Prop} {s mo b N rt : Nat} {C : List (List Int)} {m : Nat} {u : Value} {lits : List Int} (h : WS [] w0 F0 w s mo b N rt C m [] (fun _ => (0, 1)) [] 0) (hu : ∀ wr F, Ch w0 wr F0 F → Sr wr u lits) (hN : ∀ x ∈ lits, isL x = true → sp x ≤ N) (hl : lits.length ≤ 100000) :
    Calls Try.prog 39 #[.pointer (some ⟨b, 0, none⟩), u] w fun e w' => ∃ (r : Int) (T : List Int), e = .returned (.int .i64 r) ∧ (∃ M P k, WS [] w0 F0 w' s mo b N rt C m M P T k) ∧ FolR C lits T r := by
  have HB : Hid _ := begin_any h
  have HU : Hid _ := hu
  have HNN : Hid _ := hN
  have HOK : Hid (∀ c ∈ C, Okc c) := h.wc.ok
  have hSr : Sr w u lits := by
    obtain ⟨F, vo, vm, hK⟩ := h.wk
    exact hu w F hK.ch
  obtain ⟨a, c, rfl⟩ := hSr.out
  obtain ⟨n, hn⟩ : ∃ n, n = lits.length := ⟨_, rfl⟩
  rw [← hn] at hl HU ⊢
  have HN : Hid _ := hn
  clear h hu hN hSr hn
  go_enter Try.func39, Try.ntmps39
  go_wp2_with fail
  refine Calls.mono HB.out ?_
  rintro ev w1 ⟨r, rfl, hR⟩
  have HR : Hid (BegR w0 F0 w1 s mo b N rt C m r) := hR
  clear hR HB
  by_cases hr : r = -1
  · subst hr
    have hb1 : ((-1 : Int) != -1) = false := by decide
    have hb2 : ((-1 : Int) == -1) = true := by decide
    go_wp2_with fail
    go_loopw [16] (fun ix wr => ∃ (j : Nat) (M : List (Nat × Nat)) (P : Nat → Nat × Nat) (T : List Int), j ≤ n ∧ ix = .int .i64 (j : Int) ∧ Hid (WS [] w0 F0 wr s mo b N rt C m M P T T.length ∧ Iv C M P T T 0 [] ∧ Uni C T ∧ Der C (lits.take j) T ∧ ∀ x ∈ lits.take j, x ∈ T)) (fun ix wr => n - (intOf ix).toNat)
    case atStart =>
      obtain ⟨M', P', T', k', r1, r2, r3⟩ := HR.out
      rcases r3 with ⟨-, e1, e2, e3⟩ | ⟨i, c, e, -⟩
      · subst e1
        exact ⟨0, M', P', T', Nat.zero_le _, rfl, r1, e2, e3, r2, fun x hx => by simp at hx⟩
      · exfalso; omega
    case round =>
      obtain ⟨j, M, P, T, hj, rfl, hH⟩ := hrel
      obtain ⟨F, vo, vm, hK⟩ := hH.out.1.wk
      have HK : Hid _ := hK
      have hclo := clo_of hH.out.2.1 hH.out.2.2.1 HOK.out
      have HCLO : Hid _ := hclo
      have HTL : Hid (T.length ≤ 131074) := Nat.le_trans (told_len hH.out.2.1.nd hH.out.1.tb) hH.out.1.wc.nN
      clear hclo
      by_cases hlt : j < n
      · have hjl : j < lits.length := by rw [← HN.out]; exact hlt
        obtain ⟨g0, o0, rfl, hck⟩ := (HU.out wr F hK.ch).at' (Below.refl _ _) (k := j) hjl
        obtain ⟨x, hx⟩ : ∃ x, x = lits.getD j 0 := ⟨_, rfl⟩
        rw [← hx] at hck
        have hxj : lits[j]? = some x := by rw [hx, List.getD_eq_getElem?_getD, List.getElem?_eq_getElem hjl]; rfl
        have HXJ : Hid _ := hxj
        have HIL : Hid _ := isLiteral_any x wr
        have hltI : (j : Int) < (n : Int) := by omega
        have hxm : x ∈ lits := List.mem_of_getElem? hxj
        obtain ⟨bl, hbl⟩ : ∃ b, b = isL x := ⟨_, rfl⟩
        rw [← hbl] at HIL
        have HBL : Hid _ := hbl
        clear hK hx hxj hjl
        cases bl with
        | false =>
          clear hbl hxm
          go_wp2_with fail
          refine Calls.mono HIL.out ?_
          rintro ev w2 ⟨rfl, hw2⟩
          rw [hw2]
          clear hw2 w2
          go_wp2_with fail
          go_ret
          exact ⟨_, T, rfl, ⟨M, P, _, hH.out.1⟩, j, by rw [← HN.out]; exact hj, hH.out.2.2.2.1, hH.out.2.1.lit, hH.out.2.1.nd, hH.out.2.1.cons, hH.out.2.2.2.2, Or.inr (Or.inl ⟨rfl, HCLO.out, x, HXJ.out, Or.inl HBL.out.symm⟩)⟩
        | true =>
          have hxs := isL_sm hbl.symm
          have hxN : sp x ≤ N := HNN.out x hxm hbl.symm
          have hcd := cd_sp x
          have hcdn := cd_sp (-x)
          have hspn : sp (-x) = sp x := by unfold sp; rw [Int.natAbs_neg]
          have HIF : Hid _ := HK.out.isF (l := x) hxs (by omega)
          obtain ⟨bf, hbf⟩ : ∃ bf, bf = decide (-x ∈ T) := ⟨_, rfl⟩
          rw [← hbf] at HIF
          have HBF : Hid _ := hbf
          clear hbf hbl hxm
          go_wp2_with fail
          refine Calls.mono HIL.out ?_
          rintro ev w2 ⟨rfl, hw2⟩
          rw [hw2]
          clear hw2 w2
          go_wp2_with fail
          refine Calls.mono HIF.out ?_
          rintro ev w2 ⟨rfl, d2, hw2⟩
          have ha2 : Al wr w2 := by rw [hw2]; exact Al.drewN wr d2
          have HA2 : Hid (Al wr w2) := ha2
          clear hw2
          cases bf with
          | true =>
            clear ha2
            go_wp2_with fail
            go_ret
            exact ⟨_, T, rfl, ⟨M, P, _, hH.out.1.al HA2.out⟩, j, by rw [← HN.out]; exact hj, hH.out.2.2.2.1, hH.out.2.1.lit, hH.out.2.1.nd, hH.out.2.1.cons, hH.out.2.2.2.2, Or.inr (Or.inl ⟨rfl, HCLO.out, x, HXJ.out, Or.inr (decide_eq_true_iff.1 HBF.out.symm)⟩)⟩
          | false =>
            have HSE : Hid _ := set_any (HK.out.al ha2) hxs (by omega : cd x < N) (by have := HTL.out; omega)
            clear ha2
            go_wp2_with fail
            refine Calls.mono HSE.out ?_
            rintro ev w3 ⟨rfl, vo3, hK3, -⟩
            have hnx := decide_eq_false_iff_not.1 HBF.out.symm
            obtain ⟨T3, hT3⟩ : ∃ T3, T3 = (if x ∈ T then T else T ++ [x]) := ⟨_, rfl⟩
            rw [← hT3] at hK3
            have hpre : T <+: T3 := by
              rw [hT3]
              split
              · exact List.prefix_refl _
              · exact List.prefix_append _ _
            have hxT3 : x ∈ T3 := by
              rw [hT3]
              split
              · assumption
              · simp
            have htb : ∀ y ∈ T3, sp y ≤ N := fun y hy => by
              rw [hT3] at hy
              split at hy
              · exact hH.out.1.tb y hy
              · rcases List.mem_append.1 hy with hy | hy
                · exact hH.out.1.tb y hy
                · rw [List.mem_singleton.1 hy]; exact hxN
            have hIv : Iv C M P T3 T 0 [] := by
              rw [hT3]
              split
              · exact hH.out.2.1
              · rename_i hm
                exact hH.out.2.1.told (HBL.out.symm) hm hnx
            have hder : Der C (lits.take (j + 1)) T3 := by
              have h1 := hH.out.2.2.2.1.mono (take_sub (k := j))
              rw [hT3]
              split
              · exact h1
              · refine h1.snoc (Or.inl ?_)
                rw [List.take_add_one, HXJ.out]; simp
            have htk : T3.take T.length = T := by
              obtain ⟨t, ht⟩ := hpre
              rw [← ht, List.take_left]
            have hWS3 : WS [] w0 F0 w3 s mo b N rt C m M P T3 T.length := ⟨⟨F, vo3, vm, hK3⟩, hH.out.1.wc, hH.out.1.mv, htb⟩
            have HST : Hid _ := settle_any (I := lits.take (j + 1)) hWS3 (by rw [htk]; exact hIv) hpre.length_le hder
            have HPRE : Hid (T <+: T3) := hpre
            have HXT : Hid (x ∈ T3) := hxT3
            clear hT3 hpre hxT3 htb hIv hder htk hWS3 hK3 HSE
            go_wp2_with fail
            refine Calls.mono HST.out ?_
            rintro ev w4 ⟨r4, rfl, hR4⟩
            have HR4 : Hid (SetR w0 F0 w4 s mo b N rt C m (lits.take (j + 1)) T3 r4) := hR4
            clear hR4 HST
            have hall : ∀ T', T3 <+: T' → ∀ y ∈ lits.take (j + 1), y ∈ T' := fun T' hp y hy => by
              rw [List.take_add_one, HXJ.out] at hy
              rcases List.mem_append.1 hy with hy | hy
              · exact hp.subset (HPRE.out.subset (hH.out.2.2.2.2 y hy))
              · simp at hy
                rw [hy]; exact hp.subset HXT.out
            have HALL : Hid _ := hall
            clear hall
            by_cases hr4 : r4 = -1
            · subst hr4
              have hb3 : ((-1 : Int) != -1) = false := by decide
              go_wp2_with fail
              obtain ⟨M', P', T', k', r1, r2, r3, r5⟩ := HR4.out
              rcases r5 with ⟨-, e1, e2⟩ | ⟨i, c, e, -⟩
              · subst e1
                exact ⟨⟨j + 1, M', P', T', by omega, by go_num, r1, e2, hH.out.2.2.1.pre (HPRE.out.trans r2), r3, HALL.out T' r2⟩, by simp [intOf]; omega⟩
              · exfalso; omega
            · have hb3 : (r4 != -1) = true := by simp [hr4]
              have hb4 : (r4 == -1) = false := by simp [hr4]
              go_wp2_with fail
              go_ret
              obtain ⟨M', P', T', k', r1, r2, r3, r5⟩ := HR4.out
              rcases r5 with ⟨e, -⟩ | ⟨i, c, e1, e2, e3, e4, e5, e6⟩
              · exact absurd e hr4
              · refine ⟨r4, T', rfl, ⟨M', P', k', r1⟩, j + 1, by rw [← HN.out]; omega, r3, e4, e5, e6, HALL.out T' r2, Or.inr (Or.inr ⟨i, c, e1, e2, e3, Or.inr ⟨T, x, HPRE.out.trans r2, HCLO.out, HXJ.out, HBL.out.symm, decide_eq_false_iff_not.1 HBF.out.symm, hH.out.2.2.2.2⟩⟩)⟩
      · obtain rfl : j = n := by omega
        have hltI : ¬ (j : Int) < (j : Int) := by omega
        clear hK
        go_wp2_with fail
        go_ret
        have h1 := hH.out.2.2.2.1
        have h2 := hH.out.2.2.2.2
        refine ⟨_, rfl, T, ⟨M, P, _, hH.out.1⟩, j, by rw [← HN.out]; exact Nat.le_refl _, h1, hH.out.2.1.lit, hH.out.2.1.nd, hH.out.2.1.cons, h2, Or.inl ⟨rfl, HN.out, HCLO.out⟩⟩
  · have hb1 : (r != -1) = true := by simp [hr]
    have hb2 : (r == -1) = false := by simp [hr]
    go_wp2_with fail
    go_ret
    obtain ⟨M', P', T', k', r1, r2, r3⟩ := HR.out
    rcases r3 with ⟨e, -⟩ | ⟨i, c, e1, e2, e3, e4, e5, e6⟩
    · exact absurd e hr
    · exact ⟨r, T', rfl, ⟨M', P', k', r1⟩, 0, Nat.zero_le _, r2, e4, e5, e6, (fun x hx => by simp at hx), Or.inr (Or.inr ⟨i, c, e1, e2, e3, Or.inl rfl⟩)⟩
end Go.Proofs.Ytkndjndhjdfhcaa
