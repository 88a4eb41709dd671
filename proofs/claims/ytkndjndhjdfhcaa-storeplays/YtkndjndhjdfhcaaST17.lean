/- Contracts (store): Has. -/
import Derived.Test.YtkndjndhjdfhcaaST16
namespace Go.Proofs.Ytkndjndhjdfhcaa
open Go.RowKit
set_option linter.unusedSimpArgs false
set_option linter.unusedVariables false

/-- The literals of number k that are watched, as watching tells them. -/
theorem watching_any {w : World} {F : Nat → Prop} {s mo : Nat} {C : List (List Int)} (h : So w F s mo C) {l : Int} (hl : sm l) :
    ∃ u L, Sr w u L ∧ Refs C L ∧ L.length ≤ 1000000 ∧ (∀ (i : Nat) c, C[i]? = some c → wt (cd l) c = true → (i : Int) ∈ L) ∧ ∀ wx, Al w wx → Calls Try.prog 36 #[.pointer (some ⟨s, 0, none⟩), .int .i64 l] wx fun e w' => e = .returned u ∧ w' = wx := by
  obtain ⟨m, ⟨va, vb, vs, vw, us, hS⟩, hRm, hm⟩ := h.ex
  have hlen := hS.len
  rw [wls_len] at hlen
  by_cases hc : cd l < m
  · obtain ⟨R, nw, cw, cr, u, hvw, hnw, hcr, huC, hcC, hIu, hRz⟩ := hS.watches (C := cd l) (by rw [wls_len]; exact hc)
    rw [List.getD_eq_getElem?_getD, wls_at C hc] at hIu
    refine ⟨u, ixs (wt (cd l)) C, hIu.sr, refs_ixs _ _, Nat.le_trans (ixs_len _ _) (by have := h.len; omega), fun i c hi hw => mem_ixs.2 ⟨i, c, hi, hw, rfl⟩, fun wx ha => ?_⟩
    exact watching_some hl (by rw [ha.cell, ← hvw]; exact cell_of hS.hd 4 rfl) (by rw [hlen]; exact hc) (by omega) (by rw [ha.cell]; exact cell_of hcr _ hcC)
  · obtain ⟨aw, cw, hvw⟩ := own_slice hS.row
    rw [hlen] at hvw
    refine ⟨.slice none 0 0, [], ⟨_, _, rfl, Or.inl rfl⟩, (fun r hr => nomatch hr), by simp, fun i c hi hw => ?_, fun wx ha => watching_none hl (by rw [ha.cell, ← hvw]; exact cell_of hS.hd 4 rfl) (by omega) (by omega)⟩
    exfalso
    unfold wt at hw
    simp only [Bool.and_eq_true, decide_eq_true_eq, Bool.or_eq_true] at hw
    obtain ⟨h2, h3⟩ := hw
    have key : ∀ x ∈ c, cd x ≠ cd l := fun x hx e => by
      have h4 := hRm c (List.mem_of_getElem? hi) x hx
      have h5 := cd_sp x
      omega
    rcases h3 with h3 | h3
    · exact key _ (getD_mem (by omega)) h3
    · exact key _ (getD_mem (by omega)) h3
set_option maxRecDepth 20000 in
set_option maxHeartbeats 12800000 in
theorem has_any {w : World} {F : Nat → Prop} {s mo : Nat} {C : List (List Int)} (h : So w F s mo C) {u : Value} {c : List Int} (hu : Sr w u c) (hl : c.length ≤ 100000) :
    Calls Try.prog 19 #[.pointer (some ⟨s, 0, none⟩), u] w fun e w' => e = .returned (.bool (hasF C c)) ∧ Below w.heap.size w w' := by
  obtain ⟨R, hR⟩ : ∃ R, R = hasF C c := ⟨_, rfl⟩
  rw [← hR]
  have HR : Hid (R = hasF C c) := hR
  have H : Hid (So w F s mo C) := h
  have HBA : Hid (Below w.heap.size w (w.alloc (.cells #[.pointer (some ⟨s, 0, none⟩)] 25))) := by unfold Hid; go_grown
  have HON : Hid _ := once_any (hu.below HBA.out) hl
  obtain ⟨E, hE⟩ : ∃ E, E = (onceF c).2 := ⟨_, rfl⟩
  have HE : Hid (E = (onceF c).2) := hE
  obtain ⟨au, cu, hue⟩ := hu.out
  obtain ⟨nu, hnu⟩ : ∃ n, n = c.length := ⟨_, rfl⟩
  rw [← hE] at HON
  rw [← hnu] at hue
  subst hue
  have hlen1 := len_dd c
  rw [← hnu] at hlen1 hl
  clear h hu hR hnu
  by_cases h0 : E = 0
  · obtain ⟨hok, h1⟩ := once_ok (c := c) (by rw [← hE]; exact h0)
    rw [h1, h0] at HON
    have HOK : Hid _ := hok
    clear hE hok h1
    go_enter Try.func19, Try.ntmps19
    go_wp2_with fail
    refine Calls.mono HON.out ?_
    rintro ev w1 ⟨u1, rfl, hI1, hb1⟩
    obtain ⟨a1, m1, k1, hv1, HM1⟩ := own_sl hI1
    subst hv1
    rw [size_alloc'] at hI1 hb1
    have HI1 : Hid (Is' w1 (w.heap.size + 1) (.slice a1 m1 k1) (dd c)) := hI1
    have HB1 : Hid (Below (w.heap.size + 1) (w.alloc (.cells #[.pointer (some ⟨s, 0, none⟩)] 25)) w1) := hb1
    clear hI1 hb1 HON
    obtain ⟨w2, hw2⟩ : ∃ w2, w2 = w1.alloc (.cells #[.slice a1 m1 k1] 27) := ⟨_, rfl⟩
    have HW2 : Hid _ := hw2
    have hz1 : w.heap.size + 1 ≤ w1.heap.size := by have := HB1.out.size; rw [size_alloc'] at this; exact this
    have HI2 : Hid (Is' w2 (w.heap.size + 1) (.slice a1 m1 k1) (dd c)) := by unfold Hid; rw [hw2]; exact row_kept HI1.out (fun _ hq => heap_alloc_old _ _ hq)
    have hm1 : m1 ≤ 100000 := by rw [HM1.out]; omega
    have HSO : Hid _ := sort_any HI2.out (by rw [← HM1.out]; omega)
    go_wp2_with fail
    rw [← hw2]
    clear hw2
    refine Calls.mono HSO.out ?_
    rintro ev w3 ⟨rfl, hI3, hg3⟩
    have hz2 : w2.heap.size = w1.heap.size + 1 := by rw [HW2.out, size_alloc']
    have hub : ∀ b, (Value.slice a1 m1 k1).ownBlock = some b → w.heap.size + 1 ≤ b ∧ b < w1.heap.size := fun b hb => World.ownsRow.lt HI1.out b hb
    have hold : ∀ b, b < w.heap.size + 1 → w3.heap[b]? = (w.alloc (.cells #[.pointer (some ⟨s, 0, none⟩)] 25)).heap[b]? := fun b hb => by
      rw [hg3.block b (by omega) (fun e => by have := (hub b e.symm).1; omega), HW2.out, heap_alloc_old _ _ (by omega)]
      exact HB1.out.block b hb
    have hz3 : w1.heap.size + 1 ≤ w3.heap.size := by have := hg3.size; omega
    have HB3 : Hid (Below w.heap.size w w3) := by
      have h1 := HB1.out
      have h2 := hg3
      rw [HW2.out] at h2
      exact ⟨h2.os.trans h1.os, h2.tape.trans h1.tape, h2.output.trans h1.output, by omega, fun b hb => (hold b (by omega)).trans (heap_alloc_old _ _ hb)⟩
    have hp3 : w3.heap[w.heap.size]? = some (.cells #[.pointer (some ⟨s, 0, none⟩)] 25) := (hold _ (by omega)).trans (heap_alloc_new w _)
    have hq3 : w3.heap[w1.heap.size]? = some (.cells #[.slice a1 m1 k1] 27) := by
      rw [hg3.block _ (by omega) (fun e => by have := (hub _ e.symm).2; omega), HW2.out]
      exact heap_alloc_new w1 _
    obtain ⟨M, hM⟩ : ∃ M, M = (dd c).mergeSort fun x y => decide (x ≤ y) := ⟨_, rfl⟩
    rw [← hM] at hI3
    have HUP : Hid (M.Pairwise (· < ·)) := by unfold Hid; rw [hM]; exact sort_up HOK.out.once
    have HML : Hid (M.length = m1) := by unfold Hid; rw [hM, HM1.out]; exact List.length_mergeSort _
    have HMI : Hid (∀ l ∈ M, sm l) := fun l hl => by rw [hM] at hl; exact isL_sm (HOK.out.lit l (sort_mem.1 hl))
    have HRR : Hid (R = C.any fun c' => hj c' M) := by
      unfold Hid
      rw [HR.out, hM]
      unfold hasF
      rw [← HE.out, h0]; rfl
    have HCAP : Hid (Cap w3 F s mo w.heap.size w1.heap.size C M) := ⟨H.out.below HB3.out, cell_of hp3 0 rfl, _, cell_of hq3 0 rfl, hI3.sr⟩
    have HI3 : Hid (Is' w3 (w.heap.size + 1) (.slice a1 m1 k1) M) := hI3
    have d0 : w3.cell? ⟨w.heap.size, 0, none⟩ = some (.pointer (some ⟨s, 0, none⟩)) := cell_of hp3 0 rfl
    have d1 : w3.cell? ⟨w1.heap.size, 0, none⟩ = some (.slice a1 m1 k1) := cell_of hq3 0 rfl
    obtain ⟨q, hq⟩ : ∃ q, q = w1.heap.size := ⟨_, rfl⟩
    rw [← hq] at HCAP d1 ⊢
    clear hI3 hg3 hold hp3 hq3 hM hq hub hz1 hz2 hz3 HSO
    by_cases h2 : m1 < 2
    · obtain ⟨mm, ⟨va, vb, vs, vw, us, hS⟩, -⟩ := HCAP.out.so.ex
      have c3 : w3.cell? ⟨s, 3, none⟩ = some vs := cell_of hS.hd 3 rfl
      have HCF : Hid _ := containsFunc_any HCAP.out HUP.out (by rw [HML.out]; omega) hS.rs.sr (refs_ixs _ _) (Nat.le_trans (ixs_len _ _) (by have := HCAP.out.so.len; omega))
      have HEQ : Hid ((shs C).any (hjI C M) = R) := by
        unfold Hid
        rw [HRR.out]
        refine any_sub (fun i c' hi hj => mem_ixs.2 ⟨i, c', hi, ?_, rfl⟩) (refs_ixs _ _)
        unfold Go.Proofs.Ytkndjndhjdfhcaa.hj at hj
        simp only [Bool.and_eq_true, decide_eq_true_eq] at hj
        rw [decide_eq_true_eq, hj.1, HML.out]
        exact h2
      obtain ⟨a3, n3, k3, hv3, -⟩ := own_sl hS.rs
      subst hv3
      have h2I : (m1 : Int) < 2 := by omega
      rw [HEQ.out] at HCF
      clear hS
      go_wp2_with fail
      refine Calls.mono HCF.out ?_
      rintro ev w4 ⟨rfl, ha⟩
      have HA : Hid _ := ha
      clear ha
      go_wp2_with fail
      go_ret
      exact ⟨rfl, HB3.out.trans (HA.out.below _)⟩
    · have h2I : ¬ (m1 : Int) < 2 := by omega
      have HX : Hid (∀ l ∈ M, ∃ u L, Sr w3 u L ∧ Refs C L ∧ L.length ≤ 1000000 ∧ (∀ (i : Nat) c, C[i]? = some c → wt (cd l) c = true → (i : Int) ∈ L) ∧ ∀ wx, Al w3 wx → Calls Try.prog 36 #[.pointer (some ⟨s, 0, none⟩), .int .i64 l] wx fun e w' => e = .returned u ∧ w' = wx) := fun l hl => watching_any HCAP.out.so (HMI.out l hl)
      go_wp2_with fail
      go_loopw [31] (fun i wr => ∃ k : Nat, k ≤ m1 ∧ i = .int .i64 (k : Int) ∧ Hid ((∀ (i : Nat) c', C[i]? = some c' → hj c' M = true → ∀ j, j < k → wt (cd (M.getD j 0)) c' = false) ∧ Al w3 wr)) (fun i wr => m1 - (intOf i).toNat)
      case atStart => exact ⟨0, Nat.zero_le _, rfl, (fun i c' _ _ j hj => by omega), Al.refl _⟩
      case round =>
        obtain ⟨k, hk, rfl, hH⟩ := hrel
        have d0r : wr.cell? ⟨w.heap.size, 0, none⟩ = some (.pointer (some ⟨s, 0, none⟩)) := by rw [hH.out.2.cell]; exact d0
        by_cases hlt : k < m1
        · have hkl : k < M.length := by rw [HML.out]; exact hlt
          obtain ⟨g, o, rfl, hck⟩ := (Is'.sr HI3.out).at' (hH.out.2.below _) (k := k) hkl
          obtain ⟨l, hl⟩ : ∃ l, l = M.getD k 0 := ⟨_, rfl⟩
          obtain ⟨uu, L, hSr, hRf, hLl, hLw, hcall⟩ := HX.out l (by rw [hl]; exact getD_mem hkl)
          rw [← hl] at hck
          have HWC : Hid _ := hcall wr hH.out.2
          have HCF : Hid _ := containsFunc_any (HCAP.out.al hH.out.2) HUP.out (by rw [HML.out]; omega) (hSr.below (hH.out.2.below _)) hRf hLl
          have HLW : Hid _ := hLw
          have HRF : Hid (Refs C L) := hRf
          have HL : Hid _ := hl
          obtain ⟨a3, n3, k3, hue⟩ : ∃ a n c, uu = .slice a n c := by
            obtain ⟨a, c, e⟩ := hSr.out
            exact ⟨_, _, _, e⟩
          subst hue
          obtain ⟨b, hb⟩ : ∃ b, b = L.any (hjI C M) := ⟨_, rfl⟩
          rw [← hb] at HCF
          have HB : Hid _ := hb
          have hltI : (k : Int) < (m1 : Int) := by omega
          clear hSr hRf hLl hLw hcall hl hb hkl
          go_wp2_with fail
          refine Calls.mono HWC.out ?_
          rintro ev w4 ⟨rfl, hw4⟩
          rw [hw4]
          clear hw4 w4
          go_wp2_with fail
          refine Calls.mono HCF.out ?_
          rintro ev w4 ⟨rfl, ha⟩
          have HA : Hid (Al wr w4) := ha
          clear ha
          cases b with
          | true =>
            have HT : Hid (R = true) := by
              unfold Hid
              rw [HRR.out]
              obtain ⟨r, hr, h3⟩ := List.any_eq_true.1 HB.out.symm
              obtain ⟨q0, q1⟩ := HRF.out r hr
              unfold hjI at h3
              rw [List.getElem?_eq_getElem q1] at h3
              exact List.any_eq_true.2 ⟨_, List.getElem_mem q1, h3⟩
            go_wp2_with fail
            go_ret
            rw [HT.out]
            exact ⟨rfl, HB3.out.trans ((hH.out.2.trans HA.out).below _)⟩
          | false =>
            go_wp2_with fail
            refine ⟨⟨k + 1, by omega, by go_num, (fun i c' hi hj j hjk => ?_), hH.out.2.trans HA.out⟩, by simp [intOf]; omega⟩
            by_cases e : j = k
            · subst e
              rw [← HL.out]
              cases ew : wt (cd l) c' with
              | false => rfl
              | true =>
                have h3 := HLW.out i c' hi ew
                have h4 := List.any_eq_false.1 HB.out.symm _ h3
                unfold hjI at h4
                rw [Int.toNat_natCast, hi] at h4
                exact absurd hj h4
            · exact hH.out.1 i c' hi hj j (by omega)
        · obtain rfl : k = m1 := by omega
          have HT : Hid (R = false) := by
            unfold Hid
            rw [HRR.out, List.any_eq_false]
            intro c' hc' hj
            obtain ⟨i, hi, rfl⟩ := List.getElem_of_mem hc'
            have hj2 := hj
            unfold Go.Proofs.Ytkndjndhjdfhcaa.hj at hj2
            simp only [Bool.and_eq_true, decide_eq_true_eq, List.all_eq_true] at hj2
            have hcl : 2 ≤ (C[i]).length := by rw [hj2.1, HML.out]; omega
            have h3 := hj2.2 _ (getD_mem (l := C[i]) (k := 0) (by omega))
            obtain ⟨j, hjl, hje⟩ := mem_getD.1 h3
            have h4 := hH.out.1 i _ (List.getElem?_eq_getElem hi) hj j (by rw [← HML.out]; exact hjl)
            rw [hje] at h4
            unfold wt at h4
            rw [decide_eq_true hcl] at h4
            simp at h4
          have hltI : ¬ (k : Int) < (k : Int) := by omega
          go_wp2_with fail
          go_ret
          rw [HT.out]
          exact ⟨rfl, HB3.out.trans (hH.out.2.below _)⟩
  · have HT : Hid (R = false) := by
      unfold Hid
      rw [HR.out]
      unfold hasF
      rw [← HE.out, decide_eq_false h0]; rfl
    have hb0 : (E != 0) = true := by simp [h0]
    have hb1 : (E == 0) = false := by simp [h0]
    clear hE hlen1
    go_enter Try.func19, Try.ntmps19
    go_wp2_with fail
    refine Calls.mono HON.out ?_
    rintro ev w1 ⟨u1, rfl, hI1, hb1⟩
    obtain ⟨a1, m1, k1, hv1, HM1⟩ := own_sl hI1
    subst hv1
    rw [size_alloc'] at hb1
    have HB1 : Hid (Below (w.heap.size + 1) (w.alloc (.cells #[.pointer (some ⟨s, 0, none⟩)] 25)) w1) := hb1
    clear hI1 hb1
    go_wp2_with fail
    go_ret
    rw [HT.out]
    refine ⟨rfl, ?_⟩
    have h1 : Below w.heap.size w w1 := HBA.out.trans (HB1.out.mono (by omega))
    exact below_step h1 (by go_grown)
end Go.Proofs.Ytkndjndhjdfhcaa
