/- Contracts (store): Add, Len, Words, Clause. -/
import Derived.Test.YtkndjndhjdfhcaaST11
namespace Go.Proofs.Ytkndjndhjdfhcaa
open Go.RowKit
set_option linter.unusedSimpArgs false
set_option linter.unusedVariables false

theorem bds_ne (C : List (List Int)) : bds C ≠ [] := by
  intro e
  have := bds_len C
  rw [e] at this; simp at this
section
variable {w : World} {F : Nat → Prop} {s mo : Nat} {C : List (List Int)}
theorem So.c1 (h : So w F s mo C) : ∃ a c, w.cell? ⟨s, 1, none⟩ = some (.slice a (ar C).length c) := by
  obtain ⟨m, ⟨va, vb, vs, vw, us, hS⟩, -⟩ := h.ex
  obtain ⟨a, c, e⟩ := own_slice hS.ra
  exact ⟨a, c, by rw [← e]; exact cell_of hS.hd 1 rfl⟩
theorem So.c2 (h : So w F s mo C) : ∃ a c, w.cell? ⟨s, 2, none⟩ = some (.slice a (C.length + 1) c) := by
  obtain ⟨m, ⟨va, vb, vs, vw, us, hS⟩, -⟩ := h.ex
  obtain ⟨a, c, e⟩ := own_slice hS.rb
  rw [bds_len] at e
  exact ⟨a, c, by rw [← e]; exact cell_of hS.hd 2 rfl⟩
theorem So.c0 (h : So w F s mo C) : w.cell? ⟨s, 0, none⟩ = some (.int .i64 (mo : Int)) := by
  obtain ⟨m, ⟨va, vb, vs, vw, us, hS⟩, -⟩ := h.ex
  exact cell_of hS.hd 0 rfl
theorem slen_any (h : So w F s mo C) :
    Calls Try.prog 17 #[.pointer (some ⟨s, 0, none⟩)] w fun e w' => e = .returned (.int .i64 (C.length : Int)) ∧ w' = w := by
  obtain ⟨a, c, h2⟩ := h.c2
  have hl := h.len
  refine (len_any h2 (by omega) (by omega)).mono ?_
  rintro e w' ⟨rfl, rfl⟩
  exact ⟨by rw [show ((C.length + 1 : Nat) : Int) - 1 = (C.length : Int) by omega], rfl⟩
theorem swords_any (h : So w F s mo C) :
    Calls Try.prog 18 #[.pointer (some ⟨s, 0, none⟩)] w fun e w' => e = .returned (.int .i64 ((ar C).length : Int)) ∧ w' = w := by
  obtain ⟨a, c, h2⟩ := h.c1
  exact wrds_any h2
theorem ar_take (C : List (List Int)) (k : Nat) : ar C = ar (C.take k) ++ ar (C.drop k) := by
  unfold ar
  rw [← List.flatMap_append, List.take_append_drop]
theorem arN_succ {C : List (List Int)} {k : Nat} {c : List Int} (h : C[k]? = some c) : arN C (k + 1) = arN C k + 2 + c.length := by
  unfold arN
  rw [List.take_add_one, h]
  show (ar (C.take k ++ [c])).length = _
  rw [ar_snoc, List.length_append]
  simp; omega
theorem arN_le (C : List (List Int)) (k : Nat) : arN C k ≤ (ar C).length := by
  unfold arN
  rw [ar_take C k, List.length_append]; omega
theorem ar_piece {C : List (List Int)} {k : Nat} {c : List Int} (h : C[k]? = some c) {j : Nat} (hj : j < c.length + 2) : (ar C).getD (arN C k + j) 0 = (0 :: 1 :: c).getD j 0 := by
  have hk := (List.getElem?_eq_some_iff.1 h)
  obtain ⟨hk, e⟩ := hk
  have e1 : ar C = ar (C.take k) ++ ((0 :: 1 :: c) ++ ar (C.drop (k + 1))) := by
    rw [ar_take C k, List.drop_eq_getElem_cons hk, e]
    unfold ar; simp
  rw [e1, List.getD_eq_getElem?_getD, List.getD_eq_getElem?_getD, List.getElem?_append_right (by unfold arN; omega)]
  unfold arN
  rw [Nat.add_sub_cancel_left, List.getElem?_append_left (by simpa using hj)]
/-- A clause's piece, and what lies in it. -/
theorem So.piece (h : So w F s mo C) {k : Nat} {c : List Int} (hk : C[k]? = some c) : ∃ ra, Pc w s k ra (arN C k) (arN C (k + 1)) ∧ F ra ∧ ra < w.heap.size ∧ Li w ra (arN C k + 2) c := by
  obtain ⟨m, ⟨va, vb, vs, vw, us, hS⟩, -⟩ := h.ex
  have hkl := (List.getElem?_eq_some_iff.1 hk).1
  have hl := h.len
  obtain ⟨rb, cb, eb, -, -, hLb⟩ := hS.rb.li (bds_ne C)
  have hne : ar C ≠ [] := by
    have := ar_len2 C
    intro e; rw [e] at this; simp at this; omega
  obtain ⟨ra, ca, ea, -, hca, hLa⟩ := hS.ra.li hne
  have hs := arN_succ hk
  have h1 := arN_le C (k + 1)
  refine ⟨ra, ⟨rb, C.length + 1, cb, (ar C).length, ca, ?_, by omega, by omega, ?_, ?_, ?_, by omega, h1, hca, by omega⟩, hS.fam.foot 0 va ra rfl (by rw [ea]; rfl), (World.ownsRow.lt hS.ra ra (by rw [ea]; rfl)).2, fun j hj => ?_⟩
  · rw [← bds_len C, ← eb]; exact cell_of hS.hd 2 rfl
  · have := hLb k (by rw [bds_len]; omega)
    rwa [Nat.zero_add, bds_at C (by omega)] at this
  · have := hLb (k + 1) (by rw [bds_len]; omega)
    rwa [Nat.zero_add, bds_at C (by omega)] at this
  · rw [← ea]; exact cell_of hS.hd 1 rfl
  · have := hLa (arN C k + 2 + j) (by omega)
    rw [Nat.zero_add] at this
    rw [this]
    have e := ar_piece hk (j := j + 2) (by omega)
    rw [show arN C k + 2 + j = arN C k + (j + 2) by omega, e]
    simp
theorem lit_sr {ra k : Nat} {c : List Int} (h2 : ra < w.heap.size) (h3 : Li w ra (k + 2) c) : Sr w (litV ra k c.length) c := by
  refine ⟨_, _, rfl, ?_⟩
  by_cases hc : c = []
  · exact Or.inl hc
  · have : 0 < c.length := List.length_pos_iff.2 hc
    exact Or.inr ⟨ra, k + 2, by rw [if_neg (by omega)], h2, h3⟩
theorem slits_q (h : So w F s mo C) {k : Nat} {c : List Int} (hk : C[k]? = some c) : ∃ u, Sr w u c ∧ (∃ a, u = .slice a c.length c.length) ∧
    ∀ wx, Al w wx → Calls Try.prog 34 #[.pointer (some ⟨s, 0, none⟩), .int .i64 (k : Int)] wx fun e w' => e = .returned u ∧ ∃ m, w' = wx.drewN m := by
  obtain ⟨ra, h1, -, h2, h3⟩ := h.piece hk
  have hs := arN_succ hk
  refine ⟨litV ra (arN C k) c.length, lit_sr h2 h3, ⟨_, rfl⟩, fun wx ha => ?_⟩
  obtain ⟨rb, nb, cb, na, ca, q1, q2, q3, q4, q5, q6, q7⟩ := h1.ex
  have := literals_q (w := wx) (s := s) (k := k) (ra := ra) (fr := arN C k) (to := arN C (k + 1)) ⟨rb, nb, cb, na, ca, by rw [ha.cell]; exact q1, q2, q3, by rw [ha.cell]; exact q4, by rw [ha.cell]; exact q5, by rw [ha.cell]; exact q6, q7⟩
  rw [hs, show arN C k + 2 + c.length - arN C k - 2 = c.length by omega] at this
  exact this
theorem slits_any (h : So w F s mo C) {k : Nat} {c : List Int} (hk : C[k]? = some c) :
    Calls Try.prog 34 #[.pointer (some ⟨s, 0, none⟩), .int .i64 (k : Int)] w fun e w' => (∃ u, e = .returned u ∧ Sr w' u c) ∧ Al w w' := by
  obtain ⟨u, h1, -, h2⟩ := slits_q h hk
  refine (h2 w (Al.refl w)).mono ?_
  rintro e w' ⟨rfl, m, rfl⟩
  exact ⟨⟨u, rfl, h1.below ((Al.drewN w m).below _)⟩, Al.drewN w m⟩
end
set_option maxRecDepth 20000 in
set_option maxHeartbeats 6400000 in
theorem add_any {w : World} {F : Nat → Prop} {s mo : Nat} {C : List (List Int)} (h : So w F s mo C) {u : Value} {c : List Int} (hu : Sr w u c) (hl : c.length ≤ 100000) :
    Calls Try.prog 13 #[.pointer (some ⟨s, 0, none⟩), u] w fun e w' => e = .returned (.tuple #[.int .i64 (addF mo C c).1, .int .i64 (addF mo C c).2.1]) ∧ ∃ F', So w' F' s mo (addF mo C c).2.2 ∧ Ch w w' F F' := by
  obtain ⟨R, hR⟩ : ∃ R, R = addF mo C c := ⟨_, rfl⟩
  rw [← hR]
  have HR : Hid (R = addF mo C c) := hR
  have H : Hid (So w F s mo C) := h
  have HON : Hid _ := once_any hu hl
  obtain ⟨E, hE⟩ : ∃ E, E = (onceF c).2 := ⟨_, rfl⟩
  have HE : Hid (E = (onceF c).2) := hE
  have hlens := h.len
  have hmost := h.most
  obtain ⟨au, cu, hue⟩ := hu.out
  obtain ⟨nu, hnu⟩ : ∃ n, n = c.length := ⟨_, rfl⟩
  rw [← hE] at HON
  rw [← hnu] at hue
  subst hue
  have hlen1 := len_dd c
  rw [← hnu] at hlen1 hl
  clear h hu hR hnu
  by_cases h0 : E = 0
  · obtain ⟨hok, h1⟩ := once_ok (c := c) (by rw [← hE]; exact h0)
    rw [h1, h0] at HON
    have HOK : Hid _ := hok
    clear hE hok h1
    have c0 : ∀ wx, Below w.heap.size w wx → wx.cell? ⟨s, 0, none⟩ = some (.int .i64 (mo : Int)) := fun wx hb => (H.out.below hb).c0
    go_enter Try.func13, Try.ntmps13
    go_wp2_with fail
    refine Calls.mono HON.out ?_
    rintro ev w1 ⟨u1, rfl, hI1, hb1⟩
    obtain ⟨a1, m1, k1, hv1, HM1⟩ := own_sl hI1
    subst hv1
    have HI1 : Hid (Is' w1 w.heap.size (.slice a1 m1 k1) (dd c)) := hI1
    have HB1 : Hid (Below w.heap.size w w1) := hb1
    have HS1 : Hid (So w1 F s mo C) := H.out.below hb1
    have d0 := c0 w1 hb1
    have hm1 : m1 ≤ 100000 := by rw [HM1.out]; omega
    have HWO : Hid (∀ m, Calls Try.prog 18 #[.pointer (some ⟨s, 0, none⟩)] (w1.drewN m) fun e w' => e = .returned (.int .i64 ((ar C).length : Int)) ∧ w' = w1.drewN m) := fun m => swords_any (HS1.out.kept (Nat.le_refl _) (fun _ _ _ => rfl))
    obtain ⟨na, hna⟩ : ∃ n, n = (ar C).length := ⟨_, rfl⟩
    rw [← hna] at HWO hlens
    have HNA : Hid _ := hna
    clear hI1 hb1 c0 HON hna
    by_cases hfit : (mo : Int) < (na : Int) + 2 + (m1 : Int)
    · have HRR : Hid (R = (0, 111, C)) := by
        unfold Hid
        rw [HR.out]
        unfold addF
        rw [if_neg (by rw [← HE.out]; simpa using h0), if_pos (by rw [← HNA.out, ← HM1.out]; omega)]
      clear hlen1
      go_wp2_with fail
      go_quiet ((go_at_call 18; refine Calls.quiet_of_same (HWO.out _)))
      go_wp2_with fail
      go_ret2
      rw [HRR.out]
      exact ⟨rfl, F, HS1.out.kept (Nat.le_refl _) (fun _ _ _ => rfl), (Ch.of_below F HB1.out).trans (Ch.of_below F ((Al.drewN _ _).below _))⟩
    · have HRR : Hid (R = ((C.length : Int), 0, C ++ [dd c])) := by
        unfold Hid
        rw [HR.out]
        unfold addF
        rw [if_neg (by rw [← HE.out]; simpa using h0), if_neg (by rw [← HNA.out, ← HM1.out]; omega)]
      clear hlen1
      go_wp2_with fail
      go_quiet ((go_at_call 18; refine Calls.quiet_of_same (HWO.out _)))
      obtain ⟨wd, hwd⟩ : ∃ wd, wd = w1.drewN nq := ⟨_, rfl⟩
      rw [← hwd]
      have HAD : Hid (Al w1 wd) := by unfold Hid; rw [hwd]; exact Al.drewN _ _
      have HSD : Hid (So wd F s mo C) := HS1.out.below (HAD.out.below _)
      have HID : Hid (Is' wd w.heap.size (.slice a1 m1 k1) (dd c)) := row_kept HI1.out (fun q _ => by rw [HAD.out.heap])
      have HLE : Hid _ := slen_any HSD.out
      obtain ⟨n, hn⟩ : ∃ n, n = C.length := ⟨_, rfl⟩
      rw [← hn] at HLE hlens
      have HNN : Hid _ := hn
      clear hwd hn
      go_wp2_with fail
      refine Calls.mono HLE.out ?_
      rintro ev wy ⟨rfl, hy⟩
      rw [hy]
      clear hy wy HLE
      obtain ⟨m, hX, hRm, hm⟩ := HSD.out.ex
      have hF1 : ∀ b, (Value.slice a1 m1 k1).ownBlock = some b → ¬ F b := fun b hb hf => by
        have h1 := H.out.lt b hf
        have h2 := (World.ownsRow.lt HID.out b hb).1
        omega
      have HLY : Hid _ := lay_any hX HID.out HSD.out.lt hF1 (by rw [← HNA.out]; omega) (by rw [bds_len, ← HNN.out]; omega) (by rw [← HM1.out]; omega)
      have HRM : Hid (Rm C m ∧ m ≤ 131074) := ⟨hRm, hm⟩
      have HF1 : Hid _ := hF1
      clear hX hRm hm hF1
      go_wp2_with fail
      refine Calls.mono HLY.out ?_
      rintro ev w2 ⟨rfl, F2, hX2, hC2⟩
      have HI2 : Hid (Is' w2 w.heap.size (.slice a1 m1 k1) (dd c)) := row_own HID.out (fun b hb => hC2.block b (World.ownsRow.lt HID.out b hb).2 (HF1.out b hb))
      have hF2 : ∀ b, (Value.slice a1 m1 k1).ownBlock = some b → ¬ F2 b := fun b hb hf => by
        rcases hC2.foot b hf with h1 | ⟨h1, -⟩
        · exact HF1.out b hb h1
        · have h2 := (World.ownsRow.lt HID.out b hb).2
          omega
      have HWA : Hid _ := watch_any (ref := n) hX2 HI2.out hF2 (by rw [← HM1.out]; omega) (fun l hl => isL_sm (HOK.out.lit l hl)) (by rw [wls_len]; have := HRM.out.2; omega) (Nat.le_trans (ixs_len _ _) (by rw [← HNN.out]; omega)) (fun L hL => Nat.le_trans (wls_lists _ _ L hL) (by rw [← HNN.out]; omega)) (by omega)
      have HC2 : Hid (Ch wd w2 F F2) := hC2
      clear hX2 hC2 hF2 HLY
      go_wp2_with fail
      refine Calls.mono HWA.out ?_
      rintro ev w3 ⟨rfl, F3, hX3, hC3⟩
      have HX3 : Hid _ := hX3
      have HC3 : Hid (Ch w2 w3 F2 F3) := hC3
      clear hX3 hC3 HWA
      go_wp2_with fail
      go_ret2
      rw [HRR.out]
      have hch : Ch w w3 F F3 := (((Ch.of_below F HB1.out).trans (Ch.of_below F (HAD.out.below _))).trans HC2.out).trans HC3.out
      refine ⟨by rw [HNN.out]; rfl, F3, ⟨?_, fun c' hc' => ?_, ?_, hmost, hch.lts H.out.lt⟩, hch⟩
      · obtain ⟨m', g1, g2, g3, g4⟩ := gw_wls (dd c) m HRM.out.1
        refine ⟨m', ?_, fun c' hc' l hl' => ?_, g4 _ HRM.out.2 (fun l hl' => ?_)⟩
        · have h3 := HX3.out
          rw [g1] at h3
          rw [ar_snoc, bds_snoc, show shs (C ++ [dd c]) = (if (dd c).length < 2 then shs C ++ [(n : Int)] else shs C) by
            unfold shs
            rw [ixs_snoc, ← HNN.out]
            by_cases q : (dd c).length < 2 <;> simp [q]]
          by_cases q : (dd c).length < 2
          · rw [if_pos q, if_pos q] at h3
            rw [if_pos q, wls_skip q]; exact h3
          · rw [if_neg q, if_neg q, HNN.out, wls_add (by omega) HOK.out.once] at h3
            rw [if_neg q]
            exact h3
        · rcases List.mem_append.1 hc' with hc' | hc'
          · exact Nat.le_trans (HRM.out.1 c' hc' l hl') g2
          · rw [List.mem_singleton.1 hc'] at hl'
            exact g3 l hl'
        · have := isL_sm (HOK.out.lit l hl')
          unfold sm at this
          unfold sp
          omega
      · rcases List.mem_append.1 hc' with hc' | hc'
        · exact HSD.out.ok c' hc'
        · rw [List.mem_singleton.1 hc']; exact HOK.out
      · rw [ar_snoc, List.length_append, ← HNA.out]
        simp
        rw [← HM1.out]
        omega
  · have HRR : Hid (R = (0, E, C)) := by
      unfold Hid
      rw [HR.out]
      unfold addF
      rw [if_pos (by rw [← HE.out]; exact h0), ← HE.out]
    have hb0 : (E != 0) = true := by simp [h0]
    have hb1 : (E == 0) = false := by simp [h0]
    clear hE hlen1
    go_enter Try.func13, Try.ntmps13
    go_wp2_with fail
    refine Calls.mono HON.out ?_
    rintro ev w1 ⟨u1, rfl, hI1, hb1⟩
    obtain ⟨a1, m1, k1, hv1, HM1⟩ := own_sl hI1
    subst hv1
    have HB1 : Hid _ := hb1
    clear hI1 hb1
    go_wp2_with fail
    go_ret2
    rw [HRR.out]
    exact ⟨rfl, F, H.out.below HB1.out, Ch.of_below F HB1.out⟩
end Go.Proofs.Ytkndjndhjdfhcaa
