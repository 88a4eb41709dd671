/- Contracts (store's walk): settle. -/
import Derived.Test.YtkndjndhjdfhcaaST25
namespace Go.Proofs.Ytkndjndhjdfhcaa
open Go.RowKit
set_option linter.unusedSimpArgs false
set_option linter.unusedVariables false

theorem Wk.un {K K' : List (Nat × Value)} {w0 w : World} {F0 F : Nat → Prop} {s mo b N rt : Nat} {vo vm : Value} {A : List Int} {C W : List (List Int)} {M : List (Nat × Nat)} {T : List Int} {k : Nat} (h : Wk K w0 F0 w F s mo b N rt vo vm A C W M T k) (hs : SK K' w F s mo A (bds C) (shs C) W) : Wk K' w0 F0 w F s mo b N rt vo vm A C W M T k :=
  ⟨h.hd, h.tr, h.to, h.mr, h.b0, h.t0, hs, h.nb, h.nt, h.no, h.nm, h.ch, h.lt⟩
theorem WS.un {K : List (Nat × Value)} {w0 w : World} {F0 : Nat → Prop} {s mo b N rt : Nat} {C : List (List Int)} {m : Nat} {M : List (Nat × Nat)} {P : Nat → Nat × Nat} {T : List Int} {k : Nat} (h : WS K w0 F0 w s mo b N rt C m M P T k) : WS [] w0 F0 w s mo b N rt C m M P T k := by
  obtain ⟨F, vo, vm, h1⟩ := h.wk
  obtain ⟨va, vb, vs, vw, us, h2, -⟩ := h1.st
  exact ⟨⟨F, vo, vm, h1.un ⟨va, vb, vs, vw, us, h2, fun x hx => nomatch hx⟩⟩, h.wc, h.mv, h.tb⟩
/-- The list of a literal, as watching tells it, stays as long as nothing is put into it. -/
theorem ws_watching {w0 w : World} {F0 : Nat → Prop} {s mo b N rt : Nat} {C : List (List Int)} {m : Nat} {M : List (Nat × Nat)} {P : Nat → Nat × Nat} {T : List Int} {k : Nat} (h : WS [] w0 F0 w s mo b N rt C m M P T k) {l : Int} (hl : sm l) :
    ∃ K u, WS K w0 F0 w s mo b N rt C m M P T k ∧ (∀ x ∈ K, x.1 = cd l) ∧ (∃ a c, u = .slice a (wl C M (cd l)).length c) ∧ Calls Try.prog 36 #[.pointer (some ⟨s, 0, none⟩), .int .i64 l] w (fun e w' => e = .returned u ∧ w' = w) ∧
      ∀ w' M' P' T' k', WS K w0 F0 w' s mo b N rt C m M' P' T' k' → mv M' (cd l) = mv M (cd l) → Sr w' u (wl C M (cd l)) := by
  obtain ⟨F, vo, vm, h1⟩ := h.wk
  obtain ⟨va, vb, vs, vw, us, hS, -⟩ := h1.st
  have hlen := hS.len
  rw [wlsU_len] at hlen
  have hmN := h.wc.mN
  have hnN := h.wc.nN
  by_cases hc : cd l < m
  · obtain ⟨R, nw, cw, cr, u, hvw, hnw, hcr, huC, hcC, hIu, hRz⟩ := hS.watches (C := cd l) (by rw [wlsU_len]; exact hc)
    have hW : (wlsU C m M M).getD (cd l) [] = wl C M (cd l) := by rw [List.getD_eq_getElem?_getD, wlsU_full C M hc]; rfl
    rw [hW] at hIu
    refine ⟨[(cd l, u)], u, ⟨⟨F, vo, vm, h1.un ⟨va, vb, vs, vw, us, hS, fun x hx => by rw [List.mem_singleton.1 hx]; exact huC⟩⟩, h.wc, h.mv, h.tb⟩, fun x hx => by rw [List.mem_singleton.1 hx], own_slice hIu, ?_, fun w' M' P' T' k' h' hm => ?_⟩
    · exact watching_some hl (by rw [← hvw]; exact cell_of hS.hd 4 rfl) (by rw [hlen]; exact hc) (by omega) (cell_of hcr _ hcC)
    · obtain ⟨F', vo', vm', h1'⟩ := h'.wk
      obtain ⟨va', vb', vs', vw', us', hS', hK'⟩ := h1'.st
      have e := hK' (cd l, u) (List.mem_singleton.2 rfl)
      have hI := hS'.fam.row (cd l + 3) u (wl C M' (cd l)) (by simpa using e) (by simpa using wlsU_full C M' hc)
      have e2 : wl C M' (cd l) = wl C M (cd l) := by unfold wl; rw [hm]
      rw [e2] at hI
      exact hI.sr
  · obtain ⟨aw, cw, hvw⟩ := own_slice hS.row
    rw [hlen] at hvw
    have h0 : wl C M (cd l) = [] := by
      unfold wl
      have e1 : ixs (wt (cd l)) C = [] := ixs_nil fun c hc' => by
        cases e : wt (cd l) c with
        | false => rfl
        | true =>
          exfalso
          unfold wt at e
          simp only [Bool.and_eq_true, decide_eq_true_eq, Bool.or_eq_true] at e
          have key : ∀ x ∈ c, cd x ≠ cd l := fun x hx e => by
            have h4 := h.wc.rm c hc' x hx
            have h5 := cd_sp x
            omega
          rcases e.2 with h3 | h3
          · exact key _ (getD_mem (by omega)) h3
          · exact key _ (getD_mem (by omega)) h3
      have e2 : mv M (cd l) = [] := List.eq_nil_iff_forall_not_mem.2 fun r hr => by
        obtain ⟨i, hi, -⟩ := mem_mv.1 hr
        have := (h.mv.ref _ hi).2
        exact hc this
      rw [e1, e2]; rfl
    refine ⟨[], .slice none 0 0, h, (fun x hx => nomatch hx), ⟨none, 0, by rw [h0]; rfl⟩, watching_none hl (by rw [← hvw]; exact cell_of hS.hd 4 rfl) (by omega) (by omega), fun w' M' P' T' k' _ _ => ?_⟩
    rw [h0]; exact ⟨_, _, rfl, Or.inl rfl⟩
set_option maxRecDepth 20000 in
set_option maxHeartbeats 25600000 in
theorem settle_any {w0 w : World} {F0 : Nat → Prop} {s mo b N rt : Nat} {C : List (List Int)} {m : Nat} {M : List (Nat × Nat)} {P : Nat → Nat × Nat} {I T : List Int} {k : Nat} {l0 : Int} (h : WS [] w0 F0 w s mo b N rt C m M P T k) (hI : Iv C M P T (T.take k) l0 []) (hk : k ≤ T.length) (hD : Der C I T) :
    Calls Try.prog 53 #[.pointer (some ⟨b, 0, none⟩)] w fun e w' => ∃ r : Int, e = .returned (.int .i64 r) ∧ SetR w0 F0 w' s mo b N rt C m I T r := by
  have H : Hid (WS [] w0 F0 w s mo b N rt C m M P T k ∧ Iv C M P T (T.take k) 0 [] ∧ k ≤ T.length ∧ T <+: T ∧ Der C I T) := ⟨h, hI.done 0, hk, List.prefix_refl _, hD⟩
  clear h hI hk hD
  go_enter Try.func53, Try.ntmps53
  go_wp2_with fail
  go_loopw [] (fun wr => ∃ M' P' T' k', Hid (WS [] w0 F0 wr s mo b N rt C m M' P' T' k' ∧ Iv C M' P' T' (T'.take k') 0 [] ∧ k' ≤ T'.length ∧ T <+: T' ∧ Der C I T')) (fun wr => N + 1 - seenOf b wr)
  case atStart => exact ⟨M, P, T, k, H.out⟩
  case round =>
    obtain ⟨M1, P1, T1, k1, hH⟩ := hrel
    obtain ⟨F1, vo1, vm1, hK⟩ := hH.out.1.wk
    have HKR : Hid _ := hK
    have c0 : wr.cell? ⟨b, 0, none⟩ = some (.pointer (some ⟨s, 0, none⟩)) := cell_of hK.hd 0 rfl
    have c2 : wr.cell? ⟨b, 2, none⟩ = some vo1 := cell_of hK.hd 2 rfl
    have c3 : wr.cell? ⟨b, 3, none⟩ = some (.int .i64 (k1 : Int)) := cell_of hK.hd 3 rfl
    have f3 : wr.frozen? ⟨b, 3, none⟩ = false := by simp [World.frozen?, hK.hd]
    have hbl := hK.bl
    obtain ⟨a1, n1, q1, hv1, HN1⟩ := own_sl hK.to
    subst hv1
    have hn1 : n1 ≤ 131074 := by rw [HN1.out]; exact Nat.le_trans (told_len hH.out.2.1.nd hH.out.1.tb) hH.out.1.wc.nN
    have hkn : k1 ≤ n1 := by rw [HN1.out]; exact hH.out.2.2.1
    have HTO : Hid (Is' wr w0.heap.size (.slice a1 n1 q1) T1) := hK.to
    clear hK
    by_cases hlt : k1 < n1
    · have hkl : k1 < T1.length := by rw [← HN1.out]; exact hlt
      obtain ⟨ro, oo, rfl, hck⟩ := (Is'.sr HTO.out).at' (Below.refl _ _) (k := k1) hkl
      obtain ⟨x, hx⟩ : ∃ x, x = T1.getD k1 0 := ⟨_, rfl⟩
      rw [← hx] at hck
      have hxT : x ∈ T1 := by rw [hx]; exact getD_mem hkl
      have hxL := hH.out.2.1.lit x hxT
      have hxs := isL_sm hxL
      have hxs2 : -65536 ≤ x ∧ x ≤ 65536 := hxs
      have htk : T1.take (k1 + 1) = T1.take k1 ++ [x] := by
        rw [List.take_add_one, List.getElem?_eq_getElem hkl, hx, List.getD_eq_getElem?_getD, List.getElem?_eq_getElem hkl]; rfl
      have hxn : x ∉ T1.take k1 := by
        intro hm
        have hnd := hH.out.2.1.nd
        rw [← List.take_append_drop (k1 + 1) T1, htk, List.nodup_append] at hnd
        have h2 := hnd.1
        rw [List.nodup_append] at h2
        exact h2.2.2 x hm x (by simp) rfl
      have HIN : Hid _ := hH.out.2.1.next hxT hxn
      rw [← htk] at HIN
      have hltI : (k1 : Int) < (n1 : Int) := by omega
      have HTK : Hid _ := htk
      clear hx htk hxn hxT hkl
      go_wp2_with fail
      go_quiet (fail)
      obtain ⟨wd, hwd⟩ : ∃ wd, wd = wr.drewN nq := ⟨_, rfl⟩
      rw [← hwd]
      have had : Al wr wd := by rw [hwd]; exact Al.drewN wr nq
      have HAD : Hid (Al wr wd) := had
      have d2 : wd.cell? ⟨b, 2, none⟩ = some (.slice (some ⟨ro, oo, none⟩) n1 q1) := by rw [had.cell]; exact c2
      have d3 : wd.cell? ⟨b, 3, none⟩ = some (.int .i64 (k1 : Int)) := by rw [had.cell]; exact c3
      have dk : wd.cell? ⟨ro, oo + k1, none⟩ = some (.int .i64 x) := by rw [had.cell]; exact hck
      clear hwd had
      go_wp2_with fail
      go_quiet (fail)
      obtain ⟨we, hwe⟩ : ∃ we, we = wd.drewN nq := ⟨_, rfl⟩
      rw [← hwe]
      have hae : Al wr we := by rw [hwe]; exact HAD.out.trans (Al.drewN wd nq)
      have HAE : Hid (Al wr we) := hae
      have HKE : Hid (Wk [] w0 F0 we F1 s mo b N rt (.slice (some ⟨ro, oo, none⟩) n1 q1) vm1 (arP C P1 0) C (wlsU C m M1 M1) M1 T1 k1) := HKR.out.al hae
      have e3 : we.cell? ⟨b, 3, none⟩ = some (.int .i64 (k1 : Int)) := by rw [hae.cell]; exact c3
      have ef3 : we.frozen? ⟨b, 3, none⟩ = false := by rw [hae.frozen]; exact f3
      have e0 : (we.setCell ⟨b, 3, none⟩ (.int .i64 ((k1 : Int) + 1))).cell? ⟨b, 0, none⟩ = some (.pointer (some ⟨s, 0, none⟩)) := cell_of HKE.out.step.hd 0 rfl
      have hWS : WS [] w0 F0 (we.setCell ⟨b, 3, none⟩ (.int .i64 ((k1 : Int) + 1))) s mo b N rt C m M1 P1 T1 (k1 + 1) := ⟨⟨F1, _, vm1, HKE.out.step⟩, hH.out.1.wc, hH.out.1.mv, hH.out.1.tb⟩
      obtain ⟨Ks, ul, hWK, hKs, ⟨al, cl, hul⟩, hcall, hread⟩ := ws_watching hWS (l := -x) (sm_neg hxs)
      obtain ⟨nl, hnl⟩ : ∃ n, n = (wl C M1 (cd (-x))).length := ⟨_, rfl⟩
      rw [← hnl] at hul
      subst hul
      have HWK : Hid _ := hWK
      have HKS : Hid _ := hKs
      have HCA : Hid _ := hcall
      have HRE : Hid _ := hread
      have HNL : Hid _ := hnl
      have hnl2 : nl ≤ 1000000 := by
        rw [hnl]
        unfold wl
        rw [List.length_append]
        have h1 := ixs_len (wt (cd (-x))) C
        have h2 : (Go.Proofs.Ytkndjndhjdfhcaa.mv M1 (cd (-x))).length ≤ M1.length := by unfold Go.Proofs.Ytkndjndhjdfhcaa.mv; rw [List.length_map]; exact List.length_filter_le _ _
        have h3 := hH.out.1.mv.len
        have h4 := ar_len2 C
        have h5 := hH.out.1.wc.ar
        omega
      clear hwe hae hWS hWK hKs hcall hread hnl d2 d3 dk c0 c2 c3 f3 hck
      go_wp2_with fail
      refine Calls.mono HCA.out ?_
      rintro ev wy ⟨rfl, hwy⟩
      rw [hwy]
      clear hwy wy
      go_wp2_with fail
      go_loopw [41] (fun ix wr => ∃ (j : Nat) (M2 : List (Nat × Nat)) (P2 : Nat → Nat × Nat) (T2 : List Int), j ≤ nl ∧ ix = .int .i64 (j : Int) ∧ Hid (WS Ks w0 F0 wr s mo b N rt C m M2 P2 T2 (k1 + 1) ∧ Iv C M2 P2 T2 (T1.take (k1 + 1)) (-x) ((wl C M1 (cd (-x))).drop j) ∧ Go.Proofs.Ytkndjndhjdfhcaa.mv M2 (cd (-x)) = Go.Proofs.Ytkndjndhjdfhcaa.mv M1 (cd (-x)) ∧ T1 <+: T2 ∧ Der C I T2)) (fun ix wr => nl - (intOf ix).toNat)
      case atStart => exact ⟨0, M1, P1, T1, Nat.zero_le _, rfl, HWK.out, HIN.out, rfl, List.prefix_refl _, hH.out.2.2.2.2⟩
      case round =>
        obtain ⟨j, M2, P2, T2, hj, rfl, hH2⟩ := hrel
        by_cases hlt2 : j < nl
        · have hjl : j < (wl C M1 (cd (-x))).length := by rw [← HNL.out]; exact hlt2
          obtain ⟨g0, o0, rfl, hcr⟩ := (HRE.out _ M2 P2 T2 (k1 + 1) hH2.out.1 hH2.out.2.2.1).at' (Below.refl _ _) (k := j) hjl
          have hdr : (wl C M1 (cd (-x))).drop j = (wl C M1 (cd (-x))).getD j 0 :: (wl C M1 (cd (-x))).drop (j + 1) := by
            rw [List.drop_eq_getElem_cons hjl, List.getD_eq_getElem?_getD, List.getElem?_eq_getElem hjl]; rfl
          have hI2 := hH2.out.2.1
          rw [hdr] at hI2
          obtain ⟨i, c', e, -⟩ := hI2.qb _ (List.mem_cons_self ..)
          rw [e] at hcr hI2
          have HTU : Hid _ := turn_any hH2.out.1 hI2 HKS.out
          have hltI2 : (j : Int) < (nl : Int) := by omega
          clear hdr hI2 e hjl
          go_wp2_with fail
          refine Calls.mono HTU.out ?_
          rintro ev w6 ⟨r, c6, hc6, rfl, hR⟩
          have HR : Hid (TurnR Ks w0 F0 w6 s mo b N rt C m M2 P2 T2 (k1 + 1) (T1.take (k1 + 1)) (-x) ((wl C M1 (cd (-x))).drop (j + 1)) c6 r) := hR
          have HC6 : Hid _ := hc6
          clear hR hc6
          cases r with
          | true =>
            go_wp2_with fail
            obtain ⟨M3, P3, T3, r1, r2, r3, r4⟩ := HR.out
            refine ⟨⟨j + 1, M3, P3, T3, by omega, by go_num, r1, r2, r3.trans hH2.out.2.2.1, ?_, ?_⟩, by simp [intOf]; omega⟩
            · rcases r4 with e | ⟨z, e, -⟩
              · rw [e]; exact hH2.out.2.2.2.1
              · rw [e]; exact hH2.out.2.2.2.1.trans (List.prefix_append _ _)
            · rcases r4 with e | ⟨z, e, hz1, hz2⟩
              · rw [e]; exact hH2.out.2.2.2.2
              · rw [e]; exact hH2.out.2.2.2.2.snoc (Or.inr ⟨c6, List.mem_of_getElem? HC6.out, hz1, hz2⟩)
          | false =>
            go_wp2_with fail
            go_ret
            obtain ⟨r1, r2⟩ := HR.out
            exact ⟨_, rfl, M2, P2, T2, k1 + 1, r1.un, hH.out.2.2.2.1.trans hH2.out.2.2.2.1, hH2.out.2.2.2.2, Or.inr ⟨i, c6, rfl, HC6.out, r2, hH2.out.2.1.lit, hH2.out.2.1.nd, hH2.out.2.1.cons⟩⟩
        · obtain rfl : j = nl := by omega
          have hltI2 : ¬ (j : Int) < (j : Int) := by omega
          go_wp2_with fail
          have hle : k1 + 1 ≤ T1.length := by rw [← HN1.out]; omega
          have htk2 : T2.take (k1 + 1) = T1.take (k1 + 1) := by
            obtain ⟨t, ht⟩ := hH2.out.2.2.2.1
            rw [← ht, List.take_append_of_le_length hle]
          have hI2 := hH2.out.2.1
          rw [HNL.out, List.drop_length, ← htk2] at hI2
          have hle2 : T1.length ≤ T2.length := hH2.out.2.2.2.1.length_le
          have hW2 := hH2.out.1.un
          refine ⟨⟨M2, P2, T2, k1 + 1, hW2, hI2.done 0, by omega, hH.out.2.2.2.1.trans hH2.out.2.2.2.1, hH2.out.2.2.2.2⟩, ?_⟩
          rw [hW2.seen, hH.out.1.seen]
          have h9 := told_len hH.out.2.1.nd hH.out.1.tb
          have h10 := HN1.out
          omega
    · obtain rfl : k1 = n1 := by omega
      have hltI : ¬ (k1 : Int) < (k1 : Int) := by omega
      go_wp2_with fail
      go_quiet (fail)
      go_wp2_with fail
      go_ret
      refine ⟨-1, rfl, M1, P1, T1, k1, hH.out.1.al (Al.drewN wr _), hH.out.2.2.2.1, hH.out.2.2.2.2, Or.inl ⟨rfl, HN1.out, ?_⟩⟩
      have := hH.out.2.1
      rw [HN1.out, List.take_length] at this
      exact this
end Go.Proofs.Ytkndjndhjdfhcaa
