/- Contracts (store's walk): turn. (Made by a script: st24.py.) -/
import Derived.Test.YtkndjndhjdfhcaaST23
namespace Go.Proofs.Ytkndjndhjdfhcaa
open Go.RowKit
set_option linter.unusedSimpArgs false
set_option linter.unusedVariables false

/-- What turn leaves: it goes on (r), or the clause has none left. -/
def TurnR (K : List (Nat × Value)) (w0 : World) (F0 : Nat → Prop) (w' : World) (s mo b N rt : Nat) (C : List (List Int)) (m : Nat) (M : List (Nat × Nat)) (P : Nat → Nat × Nat) (T : List Int) (k : Nat) (Pr : List Int) (l : Int) (Q : List Int) (c : List Int) (r : Bool) : Prop :=
  if r then ∃ M' P' T', WS K w0 F0 w' s mo b N rt C m M' P' T' k ∧ Iv C M' P' T' Pr l Q ∧ mv M' (cd l) = mv M (cd l) ∧ (T' = T ∨ ∃ x, T' = T ++ [x] ∧ x ∈ c ∧ ∀ y ∈ c, y ≠ x → -y ∈ T)
  else WS K w0 F0 w' s mo b N rt C m M P T k ∧ ∀ y ∈ c, -y ∈ T
section
variable {K : List (Nat × Value)} {w0 w : World} {F0 : Nat → Prop} {s mo b N rt : Nat} {C : List (List Int)} {m : Nat} {M : List (Nat × Nat)} {P : Nat → Nat × Nat} {T : List Int} {k : Nat} {Pr : List Int} {l : Int} {Q : List Int} {i : Nat} {c : List Int} {p q : Nat}
set_option maxRecDepth 20000 in
set_option maxHeartbeats 25600000 in
theorem turn_a (h : WS K w0 F0 w s mo b N rt C m M P T k) (hI : Iv C M P T Pr l ((i : Int) :: Q)) (hn : Now C P T Pr l i c p q) (hKl : ∀ x ∈ K, x.1 = cd l) (hP : P i = (p, q)) :
    Calls Try.prog 67 #[.pointer (some ⟨b, 0, none⟩), .int .i64 (i : Int), .int .i64 l] w fun e w' => ∃ r : Bool, e = .returned (.bool r) ∧ TurnR K w0 F0 w' s mo b N rt C m M P T k Pr l Q c r := by
  obtain ⟨F, vo, vm, hK⟩ := h.wk
  have har := h.wc.ar
  obtain ⟨ra, na, ca, vb, vs, vw, us, hS, hKp, hPc, hra, hfz, hcell⟩ := hK.piece har hn.hi
  have hsucc := arN_succ hn.hi
  have harl := arN_le C (i + 1)
  rw [hP] at hcell
  have HP : Hid (P i = (p, q)) := hP
  have HWO : Hid _ := words_q hPc
  obtain ⟨n, hnn⟩ : ∃ n, n = c.length := ⟨_, rfl⟩
  obtain ⟨fr, hfr⟩ : ∃ n, n = arN C i := ⟨_, rfl⟩
  rw [← hfr] at HWO hcell hsucc
  rw [← hnn] at hcell hsucc
  rw [hsucc, show fr + 2 + n - fr = n + 2 by omega] at HWO
  have hn2 : 2 ≤ n := by rw [hnn]; exact hn.h2
  have hpn : p < n := by rw [hnn]; exact hn.hp
  have hqn : q < n := by rw [hnn]; exact hn.hq
  have hpq := hn.ne
  have hfrl : fr + 2 + n ≤ 262144 := by omega
  obtain ⟨y, hy⟩ : ∃ y, y = c.getD q 0 := ⟨_, rfl⟩
  have hyl : y ≠ l := by rw [hy, ← hn.mine]; exact getD_ne hn.ok.once hn.hq hn.hp (fun e => hn.ne e.symm)
  have hsmc : ∀ j, j < n → sm (c.getD j 0) ∧ cd (c.getD j 0) < N ∧ cd (-(c.getD j 0)) < N ∧ cd (c.getD j 0) < m := fun j hj => by
    have hm1 : c.getD j 0 ∈ c := getD_mem (by rw [← hnn]; exact hj)
    have h1 := h.wc.rm c (List.mem_of_getElem? hn.hi) _ hm1
    have h2 := cd_sp (c.getD j 0)
    have h3 := cd_sp (-(c.getD j 0))
    have h4 : sp (-(c.getD j 0)) = sp (c.getD j 0) := by unfold sp; rw [Int.natAbs_neg]
    have := h.wc.mN
    exact ⟨isL_sm (hn.ok.lit _ hm1), by omega, by omega, by omega⟩
  have hysm := hsmc q hqn
  rw [← hy] at hysm
  have g0 : ∀ wx, Al w wx → wx.cell? ⟨ra, fr, none⟩ = some (.int .i64 (p : Int)) := fun wx ha => by
    have := hcell 0 (by omega)
    rw [Nat.add_zero] at this
    rw [ha.cell]; exact this
  have g1 : ∀ wx, Al w wx → wx.cell? ⟨ra, fr + 1, none⟩ = some (.int .i64 (q : Int)) := fun wx ha => by rw [ha.cell]; exact hcell 1 (by omega)
  have gc : ∀ wx, Al w wx → ∀ j, j < n → wx.cell? ⟨ra, fr + 2 + j, none⟩ = some (.int .i64 (c.getD j 0)) := fun wx ha j hj => by
    rw [ha.cell]
    have := hcell (j + 2) (by omega)
    rw [show fr + (j + 2) = fr + 2 + j by omega] at this
    rw [this]
    simp
  have G0 : Hid _ := g0
  have G1 : Hid _ := g1
  have GC : Hid _ := gc
  have HSM : Hid _ := hsmc
  have HN : Hid (Now C P T Pr l i c p q) := hn
  have HIV : Hid (Iv C M P T Pr l ((i : Int) :: Q)) := hI
  have H : Hid (WS K w0 F0 w s mo b N rt C m M P T k) := h
  have HK : Hid (Wk K w0 F0 w F s mo b N rt vo vm (arP C P 0) C (wlsU C m M M) M T k) := hK
  have HS : Hid (St w F s mo (.slice (some ⟨ra, 0, none⟩) na ca) vb vs vw us (arP C P 0) (bds C) (shs C) (wlsU C m M M)) := hS
  have HFR : Hid (fr = arN C i) := hfr
  have HNN : Hid (n = c.length) := hnn
  have HFZ : Hid _ := hfz
  have HKP : Hid _ := hKp
  have HKL : Hid _ := hKl
  clear hKp hKl
  have HY : Hid (y = c.getD q 0) := hy
  have cb0 : w.cell? ⟨b, 0, none⟩ = some (.pointer (some ⟨s, 0, none⟩)) := cell_of hK.hd 0 rfl
  have HTB : Hid (T.length ≤ 131074) := Nat.le_trans (told_len hI.nd h.tb) h.wc.nN
  have HMB : Hid (M.length ≤ 262144) := Nat.le_trans h.mv.len har
  have HCB : Hid (C.length ≤ 131072) := by
    have := ar_len2 C
    unfold Hid; omega
  clear hK hS hPc hcell hfz hP hfr hnn hy g0 g1 gc hsmc hI h hn hsucc harl har
  go_enter Try.func67, Try.ntmps67
  go_wp2_with fail
  refine Calls.mono HWO.out ?_
  rintro ev w1 ⟨rfl, d1, hw1⟩
  have ha1 : Al w w1 := by rw [hw1]; exact Al.drewN w d1
  clear hw1 HWO
  have n2I : (2 : Int) ≤ (n : Int) + 2 := by omega
  go_wp2_with fail
  go_quiet (fail)
  obtain ⟨w2, hw2⟩ : ∃ w2, w2 = w1.drewN nq := ⟨_, rfl⟩
  rw [← hw2]
  have ha2 : Al w w2 := by rw [hw2]; exact ha1.trans (Al.drewN w1 nq)
  clear hw2 ha1
  have HA2 : Hid (Al w w2) := ha2
  have e0 := G0.out w2 ha2
  have e1 := G1.out w2 ha2
  have ep := GC.out w2 ha2 p hpn
  rw [HN.out.mine] at ep
  have eq := GC.out w2 ha2 q hqn
  rw [← HY.out] at eq
  have hpI : (p : Int) < (n : Int) := by omega
  have hqI : (q : Int) < (n : Int) := by omega
  have hne1 : (y == l) = false := by simp [hyl]
  have hne2 : (y != l) = true := by simp [hyl]
  have heq2 : (l != l) = false := by simp
  have HKT : Hid (Wk K w0 F0 w2 F s mo b N rt vo vm (arP C P 0) C (wlsU C m M M) M T k) := HK.out.al ha2
  have HTR : Hid _ := HKT.out.isT hysm.1 hysm.2.1
  obtain ⟨bt, hbt⟩ : ∃ bt, bt = decide (y ∈ T) := ⟨_, rfl⟩
  rw [← hbt] at HTR
  have HBT : Hid _ := hbt
  clear ha2 hbt
  go_wp2_with fail
  refine Calls.mono HTR.out ?_
  rintro ev w3 ⟨rfl, d3, hw3⟩
  have ha3 : Al w w3 := by rw [hw3]; exact HA2.out.trans (Al.drewN w2 d3)
  clear hw3 HTR HKT
  cases bt with
  | true =>
    have HA3 : Hid (Al w w3) := ha3
    clear ha3
    go_wp2_with fail
    go_ret
    refine ⟨true, rfl, M, P, T, H.out.al HA3.out, HIV.out.keep HN.out (by rw [← HY.out]; exact decide_eq_true_iff.1 HBT.out.symm), rfl, Or.inl rfl⟩
  | false =>
    have k0 := G0.out w3 ha3
    have k1 := G1.out w3 ha3
    have HA3 : Hid (Al w w3) := ha3
    clear ha3
    obtain ⟨fu, hfu⟩ : ∃ fu, fu = max p q + 1 := ⟨_, rfl⟩
    have HMX : Hid (((max p q : Nat) : Int) + 1 = (fu : Int) ∧ ((max q p : Nat) : Int) + 1 = (fu : Int) ∧ max (p : Int) (q : Int) + 1 = (fu : Int) ∧ max (q : Int) (p : Int) + 1 = (fu : Int)) := by unfold Hid; omega
    have hfun : fu ≤ n := by omega
    have HFU : Hid _ := hfu
    go_wp2_with fail
    go_quiet (fail)
    obtain ⟨w4, hw4⟩ : ∃ w4, w4 = w3.drewN nq := ⟨_, rfl⟩
    rw [← hw4]
    have ha4 : Al w w4 := by rw [hw4]; exact HA3.out.trans (Al.drewN w3 nq)
    have HA4 : Hid (Al w w4) := ha4
    obtain ⟨d, hd⟩ : ∃ d, d = n - fu := ⟨_, rfl⟩
    have hdI : (n : Int) - (fu : Int) = (d : Int) := by omega
    have hdn : fu + d = n := by omega
    have HDN : Hid _ := hdn
    clear hw4 ha4 hfu k0 k1 hd hdn
    simp only [HMX.out.1, HMX.out.2.1, HMX.out.2.2.1, HMX.out.2.2.2]
    go_wp2_with fail
    go_loopw [61] (fun ix wr => ∃ j : Nat, j ≤ d ∧ ix = .int .i64 (j : Int) ∧ Hid ((∀ t, fu ≤ t → t < fu + j → -(c.getD t 0) ∈ T) ∧ Al w wr)) (fun ix wr => d - (intOf ix).toNat)
    case atStart => exact ⟨0, Nat.zero_le _, rfl, (fun t h1 h2 => by omega), HA4.out⟩
    case round =>
      obtain ⟨j, hj, rfl, hH⟩ := hrel
      by_cases hlt : j < d
      · obtain ⟨z, hz⟩ : ∃ z, z = fu + j := ⟨_, rfl⟩
        have hzI : (fu : Int) + (j : Int) = (z : Int) := by omega
        have hzn : z < n := by have := HDN.out; omega
        have hznI : (z : Int) < (n : Int) := by omega
        have hmz : max p q < z := by have := HFU.out; omega
        obtain ⟨x, hx⟩ : ∃ x, x = c.getD z 0 := ⟨_, rfl⟩
        have ez := GC.out wr hH.out.2 z hzn
        have hxs := HSM.out z hzn
        rw [← hx] at ez hxs
        have HKR : Hid (Wk K w0 F0 wr F s mo b N rt vo vm (arP C P 0) C (wlsU C m M M) M T k) := HK.out.al hH.out.2
        have HFL : Hid _ := HKR.out.isF hxs.1 hxs.2.2.1
        obtain ⟨bf, hbf⟩ : ∃ bf, bf = decide (-x ∈ T) := ⟨_, rfl⟩
        rw [← hbf] at HFL
        have HBF : Hid _ := hbf
        have HX : Hid (x = c.getD z 0) := hx
        have HZ : Hid (z = fu + j) := hz
        have hltI : (j : Int) < (d : Int) := by omega
        clear hbf hx hz
        go_wp2_with fail
        refine Calls.mono HFL.out ?_
        rintro ev w5 ⟨rfl, d5, hw5⟩
        have ha5 : Al w w5 := by rw [hw5]; exact hH.out.2.trans (Al.drewN wr d5)
        have HA5 : Hid (Al w w5) := ha5
        clear hw5 HFL HKR
        cases bf with
        | true =>
          clear ha5
          go_wp2_with fail
          refine ⟨⟨j + 1, by omega, by go_num, (fun t h1 h2 => ?_), HA5.out⟩, by simp [intOf]; omega⟩
          by_cases e : t = z
          · rw [e, ← HX.out]; exact decide_eq_true_iff.1 HBF.out.symm
          · exact hH.out.1 t h1 (by have := HZ.out; omega)
        | false =>
          have f0 : w5.cell? ⟨ra, fr, none⟩ = some (.int .i64 (p : Int)) := G0.out w5 ha5
          have ff : w5.frozen? ⟨ra, fr, none⟩ = false := by rw [ha5.frozen]; exact HFZ.out _
          have ez5 : (w5.setCell ⟨ra, fr, none⟩ (.int .i64 (z : Int))).cell? ⟨ra, fr + 2 + z, none⟩ = some (.int .i64 x) := by
            rw [World.cell?_setCell_other _ _ _ _ (by intro e; injection e with e1 e2; omega)]
            rw [HX.out]; exact GC.out w5 ha5 z hzn
          have hS5 := HS.out.kept (w' := w5) (fun q _ _ => by rw [ha5.heap])
          have hlen : fr < (arP C P 0).length := by
            rw [arP_len]
            have h1 := arN_succ HN.out.hi
            have h2 := arN_le C (i + 1)
            have := HFR.out
            omega
          obtain ⟨q1, q2⟩ := hS5.cell rfl hlen (z : Int)
          have hset : (arP C P 0).set (fr) (z : Int) = arP C (upP P i (z, q)) 0 := by
            rw [HFR.out]
            have h3 := (arP_set C P 0 i c HN.out.hi z).1
            rw [Nat.zero_add, HP.out] at h3
            exact h3
          rw [hset] at q1
          have hK6 : Wk K w0 F0 (w5.setCell ⟨ra, fr, none⟩ (.int .i64 (z : Int))) F s mo b N rt vo vm (arP C (upP P i (z, q)) 0) C (wlsU C m M M) M T k := (HK.out.al ha5).move q2 ⟨_, _, _, _, _, q1, HKP.out⟩
          have HNO : Hid _ := note_any (ref := i) hK6 hxs.1 (by rw [wlsU_len]; exact hxs.2.2.2) (by rw [wlsU_len]; have := H.out.wc.mN; have := H.out.wc.nN; omega) (fun L hL => Nat.le_trans (wlsU_lists L hL) (by have := HMB.out; have := HCB.out; omega)) (by have := HMB.out; omega) (fun y hy e => by
            rw [HKL.out y hy] at e
            have e2 := cd_inj e
            have h4 := decide_eq_false_iff_not.1 HBF.out.symm
            rw [← e2] at h4
            exact h4 HN.out.off)
          clear hS5 hlen q1 q2 hset hK6 ha5
          go_wp2_with fail
          refine Calls.mono HNO.out ?_
          rintro ev w6 ⟨rfl, F6, vm6, hK6⟩
          have HK6 : Hid _ := hK6
          clear hK6 HNO
          go_wp2_with fail
          go_ret
          have hxm : cd x < m := hxs.2.2.2
          have hk6 := HK6.out
          rw [wlsU_snoc (x := (i, cd x)) hxm] at hk6
          have hgt : max (P i).1 (P i).2 < max ((z, q) : Nat × Nat).1 ((z, q) : Nat × Nat).2 := by
            rw [HP.out]
            show max p q < max z q
            omega
          refine ⟨true, rfl, M ++ [(i, cd x)], upP P i (z, q), T, ⟨⟨F6, vo, vm6, hk6⟩, H.out.wc, H.out.mv.move HN.out.hi HN.out.h2 hxm hgt (by rw [← HNN.out]; exact ⟨by show _ < n; omega, by show _ < n; omega⟩), H.out.tb⟩, ?_, ?_, Or.inl rfl⟩
          rotate_left 1
          · rw [mv_snoc, if_neg (fun e => by
              have e2 := cd_inj e
              have h4 := decide_eq_false_iff_not.1 HBF.out.symm
              rw [e2] at h4
              exact h4 HN.out.off), List.append_nil]
          rw [HX.out]
          refine HIV.out.move HN.out hmz (by rw [← HNN.out]; exact hzn) (fun t h1 h2 _ => hH.out.1 t (by have := HFU.out; omega) (by have := HZ.out; omega)) (by rw [← HX.out]; exact decide_eq_false_iff_not.1 HBF.out.symm) (Or.inl ⟨HP.out, rfl⟩)
      · obtain rfl : j = d := by omega
        have hltI : ¬ (j : Int) < (j : Int) := by omega
        have hall : ∀ t, max p q < t → t < n → t < c.length → -(c.getD t 0) ∈ T := fun t h1 h2 _ => hH.out.1 t (by have := HFU.out; omega) (by have := HDN.out; omega)
        have HOT : Hid _ := HIV.out.others HN.out (z := n) (by omega) hall
        have HKR : Hid (Wk K w0 F0 wr F s mo b N rt vo vm (arP C P 0) C (wlsU C m M M) M T k) := HK.out.al hH.out.2
        have HFL : Hid _ := HKR.out.isF hysm.1 hysm.2.2.1
        obtain ⟨bf, hbf⟩ : ∃ bf, bf = decide (-y ∈ T) := ⟨_, rfl⟩
        rw [← hbf] at HFL
        have HBF : Hid _ := hbf
        clear hbf hall
        go_wp2_with fail
        refine Calls.mono HFL.out ?_
        rintro ev w5 ⟨rfl, d5, hw5⟩
        have ha5 : Al w w5 := by rw [hw5]; exact hH.out.2.trans (Al.drewN wr d5)
        have HA5 : Hid (Al w w5) := ha5
        clear hw5 HFL HKR
        cases bf with
        | true =>
          clear ha5
          go_wp2_with fail
          go_ret
          refine ⟨false, rfl, H.out.al HA5.out, fun y' hy' => ?_⟩
          obtain ⟨t, ht, rfl⟩ := mem_getD.1 hy'
          by_cases e : t = q
          · rw [e, ← HY.out]; exact decide_eq_true_iff.1 HBF.out.symm
          · exact HOT.out t (by rw [HNN.out]; exact ht) ht e
        | false =>
          have hK5 := HK.out.al ha5
          have HSE : Hid _ := set_any hK5 hysm.1 hysm.2.1 (by have := HTB.out; omega)
          rw [if_neg (decide_eq_false_iff_not.1 HBT.out.symm)] at HSE
          clear hK5 ha5
          go_wp2_with fail
          refine Calls.mono HSE.out ?_
          rintro ev w6 ⟨rfl, vo6, hK6, -⟩
          have HK6 : Hid _ := hK6
          clear hK6 HSE
          go_wp2_with fail
          go_ret
          have hyT := decide_eq_false_iff_not.1 HBT.out.symm
          have hyF := decide_eq_false_iff_not.1 HBF.out.symm
          have hyc : y ∈ c := by rw [HY.out]; exact getD_mem HN.out.hq
          refine ⟨true, rfl, M, P, T ++ [y], ⟨⟨F, vo6, vm, HK6.out⟩, H.out.wc, H.out.mv, fun x hx => ?_⟩, ?_, rfl, Or.inr ⟨y, rfl, hyc, fun y' hy' hne => ?_⟩⟩
          · rcases List.mem_append.1 hx with hx | hx
            · exact H.out.tb x hx
            · rw [List.mem_singleton.1 hx]
              exact Nat.le_trans (H.out.wc.rm c (List.mem_of_getElem? HN.out.hi) y hyc) H.out.wc.mN
          · rw [HY.out]
            rw [HY.out] at hyT hyF
            exact HIV.out.unit HN.out hyT hyF
          · obtain ⟨t, ht, rfl⟩ := mem_getD.1 hy'
            exact HOT.out t (by rw [HNN.out]; exact ht) ht (fun e => hne (by rw [e, ← HY.out]))
set_option maxRecDepth 20000 in
set_option maxHeartbeats 25600000 in
theorem turn_b (h : WS K w0 F0 w s mo b N rt C m M P T k) (hI : Iv C M P T Pr l ((i : Int) :: Q)) (hn : Now C P T Pr l i c p q) (hKl : ∀ x ∈ K, x.1 = cd l) (hP : P i = (q, p)) :
    Calls Try.prog 67 #[.pointer (some ⟨b, 0, none⟩), .int .i64 (i : Int), .int .i64 l] w fun e w' => ∃ r : Bool, e = .returned (.bool r) ∧ TurnR K w0 F0 w' s mo b N rt C m M P T k Pr l Q c r := by
  obtain ⟨F, vo, vm, hK⟩ := h.wk
  have har := h.wc.ar
  obtain ⟨ra, na, ca, vb, vs, vw, us, hS, hKp, hPc, hra, hfz, hcell⟩ := hK.piece har hn.hi
  have hsucc := arN_succ hn.hi
  have harl := arN_le C (i + 1)
  rw [hP] at hcell
  have HP : Hid (P i = (q, p)) := hP
  have HWO : Hid _ := words_q hPc
  obtain ⟨n, hnn⟩ : ∃ n, n = c.length := ⟨_, rfl⟩
  obtain ⟨fr, hfr⟩ : ∃ n, n = arN C i := ⟨_, rfl⟩
  rw [← hfr] at HWO hcell hsucc
  rw [← hnn] at hcell hsucc
  rw [hsucc, show fr + 2 + n - fr = n + 2 by omega] at HWO
  have hn2 : 2 ≤ n := by rw [hnn]; exact hn.h2
  have hpn : p < n := by rw [hnn]; exact hn.hp
  have hqn : q < n := by rw [hnn]; exact hn.hq
  have hpq := hn.ne
  have hfrl : fr + 2 + n ≤ 262144 := by omega
  obtain ⟨y, hy⟩ : ∃ y, y = c.getD q 0 := ⟨_, rfl⟩
  have hyl : y ≠ l := by rw [hy, ← hn.mine]; exact getD_ne hn.ok.once hn.hq hn.hp (fun e => hn.ne e.symm)
  have hsmc : ∀ j, j < n → sm (c.getD j 0) ∧ cd (c.getD j 0) < N ∧ cd (-(c.getD j 0)) < N ∧ cd (c.getD j 0) < m := fun j hj => by
    have hm1 : c.getD j 0 ∈ c := getD_mem (by rw [← hnn]; exact hj)
    have h1 := h.wc.rm c (List.mem_of_getElem? hn.hi) _ hm1
    have h2 := cd_sp (c.getD j 0)
    have h3 := cd_sp (-(c.getD j 0))
    have h4 : sp (-(c.getD j 0)) = sp (c.getD j 0) := by unfold sp; rw [Int.natAbs_neg]
    have := h.wc.mN
    exact ⟨isL_sm (hn.ok.lit _ hm1), by omega, by omega, by omega⟩
  have hysm := hsmc q hqn
  rw [← hy] at hysm
  have g0 : ∀ wx, Al w wx → wx.cell? ⟨ra, fr, none⟩ = some (.int .i64 (q : Int)) := fun wx ha => by
    have := hcell 0 (by omega)
    rw [Nat.add_zero] at this
    rw [ha.cell]; exact this
  have g1 : ∀ wx, Al w wx → wx.cell? ⟨ra, fr + 1, none⟩ = some (.int .i64 (p : Int)) := fun wx ha => by rw [ha.cell]; exact hcell 1 (by omega)
  have gc : ∀ wx, Al w wx → ∀ j, j < n → wx.cell? ⟨ra, fr + 2 + j, none⟩ = some (.int .i64 (c.getD j 0)) := fun wx ha j hj => by
    rw [ha.cell]
    have := hcell (j + 2) (by omega)
    rw [show fr + (j + 2) = fr + 2 + j by omega] at this
    rw [this]
    simp
  have G0 : Hid _ := g0
  have G1 : Hid _ := g1
  have GC : Hid _ := gc
  have HSM : Hid _ := hsmc
  have HN : Hid (Now C P T Pr l i c p q) := hn
  have HIV : Hid (Iv C M P T Pr l ((i : Int) :: Q)) := hI
  have H : Hid (WS K w0 F0 w s mo b N rt C m M P T k) := h
  have HK : Hid (Wk K w0 F0 w F s mo b N rt vo vm (arP C P 0) C (wlsU C m M M) M T k) := hK
  have HS : Hid (St w F s mo (.slice (some ⟨ra, 0, none⟩) na ca) vb vs vw us (arP C P 0) (bds C) (shs C) (wlsU C m M M)) := hS
  have HFR : Hid (fr = arN C i) := hfr
  have HNN : Hid (n = c.length) := hnn
  have HFZ : Hid _ := hfz
  have HKP : Hid _ := hKp
  have HKL : Hid _ := hKl
  clear hKp hKl
  have HY : Hid (y = c.getD q 0) := hy
  have cb0 : w.cell? ⟨b, 0, none⟩ = some (.pointer (some ⟨s, 0, none⟩)) := cell_of hK.hd 0 rfl
  have HTB : Hid (T.length ≤ 131074) := Nat.le_trans (told_len hI.nd h.tb) h.wc.nN
  have HMB : Hid (M.length ≤ 262144) := Nat.le_trans h.mv.len har
  have HCB : Hid (C.length ≤ 131072) := by
    have := ar_len2 C
    unfold Hid; omega
  clear hK hS hPc hcell hfz hP hfr hnn hy g0 g1 gc hsmc hI h hn hsucc harl har
  go_enter Try.func67, Try.ntmps67
  go_wp2_with fail
  refine Calls.mono HWO.out ?_
  rintro ev w1 ⟨rfl, d1, hw1⟩
  have ha1 : Al w w1 := by rw [hw1]; exact Al.drewN w d1
  clear hw1 HWO
  have n2I : (2 : Int) ≤ (n : Int) + 2 := by omega
  go_wp2_with fail
  go_quiet (fail)
  obtain ⟨w2, hw2⟩ : ∃ w2, w2 = w1.drewN nq := ⟨_, rfl⟩
  rw [← hw2]
  have ha2 : Al w w2 := by rw [hw2]; exact ha1.trans (Al.drewN w1 nq)
  clear hw2 ha1
  have HA2 : Hid (Al w w2) := ha2
  have e0 := G0.out w2 ha2
  have e1 := G1.out w2 ha2
  have ep := GC.out w2 ha2 p hpn
  rw [HN.out.mine] at ep
  have eq := GC.out w2 ha2 q hqn
  rw [← HY.out] at eq
  have hpI : (p : Int) < (n : Int) := by omega
  have hqI : (q : Int) < (n : Int) := by omega
  have hne1 : (y == l) = false := by simp [hyl]
  have hne2 : (y != l) = true := by simp [hyl]
  have heq2 : (l != l) = false := by simp
  have HKT : Hid (Wk K w0 F0 w2 F s mo b N rt vo vm (arP C P 0) C (wlsU C m M M) M T k) := HK.out.al ha2
  have HTR : Hid _ := HKT.out.isT hysm.1 hysm.2.1
  obtain ⟨bt, hbt⟩ : ∃ bt, bt = decide (y ∈ T) := ⟨_, rfl⟩
  rw [← hbt] at HTR
  have HBT : Hid _ := hbt
  clear ha2 hbt
  go_wp2_with fail
  refine Calls.mono HTR.out ?_
  rintro ev w3 ⟨rfl, d3, hw3⟩
  have ha3 : Al w w3 := by rw [hw3]; exact HA2.out.trans (Al.drewN w2 d3)
  clear hw3 HTR HKT
  cases bt with
  | true =>
    have HA3 : Hid (Al w w3) := ha3
    clear ha3
    go_wp2_with fail
    go_ret
    refine ⟨true, rfl, M, P, T, H.out.al HA3.out, HIV.out.keep HN.out (by rw [← HY.out]; exact decide_eq_true_iff.1 HBT.out.symm), rfl, Or.inl rfl⟩
  | false =>
    have k0 := G0.out w3 ha3
    have k1 := G1.out w3 ha3
    have HA3 : Hid (Al w w3) := ha3
    clear ha3
    obtain ⟨fu, hfu⟩ : ∃ fu, fu = max p q + 1 := ⟨_, rfl⟩
    have HMX : Hid (((max p q : Nat) : Int) + 1 = (fu : Int) ∧ ((max q p : Nat) : Int) + 1 = (fu : Int) ∧ max (p : Int) (q : Int) + 1 = (fu : Int) ∧ max (q : Int) (p : Int) + 1 = (fu : Int)) := by unfold Hid; omega
    have hfun : fu ≤ n := by omega
    have HFU : Hid _ := hfu
    go_wp2_with fail
    go_quiet (fail)
    obtain ⟨w4, hw4⟩ : ∃ w4, w4 = w3.drewN nq := ⟨_, rfl⟩
    rw [← hw4]
    have ha4 : Al w w4 := by rw [hw4]; exact HA3.out.trans (Al.drewN w3 nq)
    have HA4 : Hid (Al w w4) := ha4
    obtain ⟨d, hd⟩ : ∃ d, d = n - fu := ⟨_, rfl⟩
    have hdI : (n : Int) - (fu : Int) = (d : Int) := by omega
    have hdn : fu + d = n := by omega
    have HDN : Hid _ := hdn
    clear hw4 ha4 hfu k0 k1 hd hdn
    simp only [HMX.out.1, HMX.out.2.1, HMX.out.2.2.1, HMX.out.2.2.2]
    go_wp2_with fail
    go_loopw [61] (fun ix wr => ∃ j : Nat, j ≤ d ∧ ix = .int .i64 (j : Int) ∧ Hid ((∀ t, fu ≤ t → t < fu + j → -(c.getD t 0) ∈ T) ∧ Al w wr)) (fun ix wr => d - (intOf ix).toNat)
    case atStart => exact ⟨0, Nat.zero_le _, rfl, (fun t h1 h2 => by omega), HA4.out⟩
    case round =>
      obtain ⟨j, hj, rfl, hH⟩ := hrel
      by_cases hlt : j < d
      · obtain ⟨z, hz⟩ : ∃ z, z = fu + j := ⟨_, rfl⟩
        have hzI : (fu : Int) + (j : Int) = (z : Int) := by omega
        have hzn : z < n := by have := HDN.out; omega
        have hznI : (z : Int) < (n : Int) := by omega
        have hmz : max p q < z := by have := HFU.out; omega
        obtain ⟨x, hx⟩ : ∃ x, x = c.getD z 0 := ⟨_, rfl⟩
        have ez := GC.out wr hH.out.2 z hzn
        have hxs := HSM.out z hzn
        rw [← hx] at ez hxs
        have HKR : Hid (Wk K w0 F0 wr F s mo b N rt vo vm (arP C P 0) C (wlsU C m M M) M T k) := HK.out.al hH.out.2
        have HFL : Hid _ := HKR.out.isF hxs.1 hxs.2.2.1
        obtain ⟨bf, hbf⟩ : ∃ bf, bf = decide (-x ∈ T) := ⟨_, rfl⟩
        rw [← hbf] at HFL
        have HBF : Hid _ := hbf
        have HX : Hid (x = c.getD z 0) := hx
        have HZ : Hid (z = fu + j) := hz
        have hltI : (j : Int) < (d : Int) := by omega
        clear hbf hx hz
        go_wp2_with fail
        refine Calls.mono HFL.out ?_
        rintro ev w5 ⟨rfl, d5, hw5⟩
        have ha5 : Al w w5 := by rw [hw5]; exact hH.out.2.trans (Al.drewN wr d5)
        have HA5 : Hid (Al w w5) := ha5
        clear hw5 HFL HKR
        cases bf with
        | true =>
          clear ha5
          go_wp2_with fail
          refine ⟨⟨j + 1, by omega, by go_num, (fun t h1 h2 => ?_), HA5.out⟩, by simp [intOf]; omega⟩
          by_cases e : t = z
          · rw [e, ← HX.out]; exact decide_eq_true_iff.1 HBF.out.symm
          · exact hH.out.1 t h1 (by have := HZ.out; omega)
        | false =>
          have f0 : w5.cell? ⟨ra, fr + 1, none⟩ = some (.int .i64 (p : Int)) := G1.out w5 ha5
          have ff : w5.frozen? ⟨ra, fr + 1, none⟩ = false := by rw [ha5.frozen]; exact HFZ.out _
          have ez5 : (w5.setCell ⟨ra, fr + 1, none⟩ (.int .i64 (z : Int))).cell? ⟨ra, fr + 2 + z, none⟩ = some (.int .i64 x) := by
            rw [World.cell?_setCell_other _ _ _ _ (by intro e; injection e with e1 e2; omega)]
            rw [HX.out]; exact GC.out w5 ha5 z hzn
          have hS5 := HS.out.kept (w' := w5) (fun q _ _ => by rw [ha5.heap])
          have hlen : fr + 1 < (arP C P 0).length := by
            rw [arP_len]
            have h1 := arN_succ HN.out.hi
            have h2 := arN_le C (i + 1)
            have := HFR.out
            omega
          obtain ⟨q1, q2⟩ := hS5.cell rfl hlen (z : Int)
          have hset : (arP C P 0).set (fr + 1) (z : Int) = arP C (upP P i (q, z)) 0 := by
            rw [HFR.out]
            have h3 := (arP_set C P 0 i c HN.out.hi z).2
            rw [Nat.zero_add, HP.out] at h3
            exact h3
          rw [hset] at q1
          have hK6 : Wk K w0 F0 (w5.setCell ⟨ra, fr + 1, none⟩ (.int .i64 (z : Int))) F s mo b N rt vo vm (arP C (upP P i (q, z)) 0) C (wlsU C m M M) M T k := (HK.out.al ha5).move q2 ⟨_, _, _, _, _, q1, HKP.out⟩
          have HNO : Hid _ := note_any (ref := i) hK6 hxs.1 (by rw [wlsU_len]; exact hxs.2.2.2) (by rw [wlsU_len]; have := H.out.wc.mN; have := H.out.wc.nN; omega) (fun L hL => Nat.le_trans (wlsU_lists L hL) (by have := HMB.out; have := HCB.out; omega)) (by have := HMB.out; omega) (fun y hy e => by
            rw [HKL.out y hy] at e
            have e2 := cd_inj e
            have h4 := decide_eq_false_iff_not.1 HBF.out.symm
            rw [← e2] at h4
            exact h4 HN.out.off)
          clear hS5 hlen q1 q2 hset hK6 ha5
          go_wp2_with fail
          refine Calls.mono HNO.out ?_
          rintro ev w6 ⟨rfl, F6, vm6, hK6⟩
          have HK6 : Hid _ := hK6
          clear hK6 HNO
          go_wp2_with fail
          go_ret
          have hxm : cd x < m := hxs.2.2.2
          have hk6 := HK6.out
          rw [wlsU_snoc (x := (i, cd x)) hxm] at hk6
          have hgt : max (P i).1 (P i).2 < max ((q, z) : Nat × Nat).1 ((q, z) : Nat × Nat).2 := by
            rw [HP.out]
            show max q p < max q z
            omega
          refine ⟨true, rfl, M ++ [(i, cd x)], upP P i (q, z), T, ⟨⟨F6, vo, vm6, hk6⟩, H.out.wc, H.out.mv.move HN.out.hi HN.out.h2 hxm hgt (by rw [← HNN.out]; exact ⟨by show _ < n; omega, by show _ < n; omega⟩), H.out.tb⟩, ?_, ?_, Or.inl rfl⟩
          rotate_left 1
          · rw [mv_snoc, if_neg (fun e => by
              have e2 := cd_inj e
              have h4 := decide_eq_false_iff_not.1 HBF.out.symm
              rw [e2] at h4
              exact h4 HN.out.off), List.append_nil]
          rw [HX.out]
          refine HIV.out.move HN.out hmz (by rw [← HNN.out]; exact hzn) (fun t h1 h2 _ => hH.out.1 t (by have := HFU.out; omega) (by have := HZ.out; omega)) (by rw [← HX.out]; exact decide_eq_false_iff_not.1 HBF.out.symm) (Or.inr ⟨HP.out, rfl⟩)
      · obtain rfl : j = d := by omega
        have hltI : ¬ (j : Int) < (j : Int) := by omega
        have hall : ∀ t, max p q < t → t < n → t < c.length → -(c.getD t 0) ∈ T := fun t h1 h2 _ => hH.out.1 t (by have := HFU.out; omega) (by have := HDN.out; omega)
        have HOT : Hid _ := HIV.out.others HN.out (z := n) (by omega) hall
        have HKR : Hid (Wk K w0 F0 wr F s mo b N rt vo vm (arP C P 0) C (wlsU C m M M) M T k) := HK.out.al hH.out.2
        have HFL : Hid _ := HKR.out.isF hysm.1 hysm.2.2.1
        obtain ⟨bf, hbf⟩ : ∃ bf, bf = decide (-y ∈ T) := ⟨_, rfl⟩
        rw [← hbf] at HFL
        have HBF : Hid _ := hbf
        clear hbf hall
        go_wp2_with fail
        refine Calls.mono HFL.out ?_
        rintro ev w5 ⟨rfl, d5, hw5⟩
        have ha5 : Al w w5 := by rw [hw5]; exact hH.out.2.trans (Al.drewN wr d5)
        have HA5 : Hid (Al w w5) := ha5
        clear hw5 HFL HKR
        cases bf with
        | true =>
          clear ha5
          go_wp2_with fail
          go_ret
          refine ⟨false, rfl, H.out.al HA5.out, fun y' hy' => ?_⟩
          obtain ⟨t, ht, rfl⟩ := mem_getD.1 hy'
          by_cases e : t = q
          · rw [e, ← HY.out]; exact decide_eq_true_iff.1 HBF.out.symm
          · exact HOT.out t (by rw [HNN.out]; exact ht) ht e
        | false =>
          have hK5 := HK.out.al ha5
          have HSE : Hid _ := set_any hK5 hysm.1 hysm.2.1 (by have := HTB.out; omega)
          rw [if_neg (decide_eq_false_iff_not.1 HBT.out.symm)] at HSE
          clear hK5 ha5
          go_wp2_with fail
          refine Calls.mono HSE.out ?_
          rintro ev w6 ⟨rfl, vo6, hK6, -⟩
          have HK6 : Hid _ := hK6
          clear hK6 HSE
          go_wp2_with fail
          go_ret
          have hyT := decide_eq_false_iff_not.1 HBT.out.symm
          have hyF := decide_eq_false_iff_not.1 HBF.out.symm
          have hyc : y ∈ c := by rw [HY.out]; exact getD_mem HN.out.hq
          refine ⟨true, rfl, M, P, T ++ [y], ⟨⟨F, vo6, vm, HK6.out⟩, H.out.wc, H.out.mv, fun x hx => ?_⟩, ?_, rfl, Or.inr ⟨y, rfl, hyc, fun y' hy' hne => ?_⟩⟩
          · rcases List.mem_append.1 hx with hx | hx
            · exact H.out.tb x hx
            · rw [List.mem_singleton.1 hx]
              exact Nat.le_trans (H.out.wc.rm c (List.mem_of_getElem? HN.out.hi) y hyc) H.out.wc.mN
          · rw [HY.out]
            rw [HY.out] at hyT hyF
            exact HIV.out.unit HN.out hyT hyF
          · obtain ⟨t, ht, rfl⟩ := mem_getD.1 hy'
            exact HOT.out t (by rw [HNN.out]; exact ht) ht (fun e => hne (by rw [e, ← HY.out]))
end
end Go.Proofs.Ytkndjndhjdfhcaa
