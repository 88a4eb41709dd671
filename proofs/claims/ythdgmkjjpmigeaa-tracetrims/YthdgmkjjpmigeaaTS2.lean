/- TraceTrims: the walk. -/
import Derived.Test.YthdgmkjjpmigeaaTS1
import Derived.Test.YthdgmkjjpmigeaaTP4
namespace Go.Proofs.Ythdgmkjjpmigeaa
open Go.RowKit
set_option linter.unusedSimpArgs false
set_option linter.unusedVariables false

/-- The steps that the first i name. -/
def usd (g : Nat) (K : List (List Int)) : Nat → List Bool
  | 0 => List.replicate K.length false
  | i + 1 => mark g (usd g K i) (K.getD i [])
theorem usd_len (g : Nat) (K : List (List Int)) : ∀ i, (usd g K i).length = K.length
  | 0 => by simp [usd]
  | i + 1 => by rw [usd, mark_len, usd_len g K i]
theorem usd_mono (g : Nat) (K : List (List Int)) (j : Nat) : ∀ d i, (usd g K i).getD j false = true → (usd g K (i + d)).getD j false = true
  | 0, i, h => h
  | d + 1, i, h => by rw [show i + (d + 1) = (i + d) + 1 by omega, usd]; exact mark_mono g _ _ _ (usd_mono g K j d i h)
theorem usd_all {g : Nat} {K : List (List Int)} (hU : Used g K) {j : Nat} (hj : j + 1 < K.length) : (usd g K K.length).getD j false = true := by
  obtain ⟨i, F, h1, h2, h3⟩ := hU j hj
  have hi : i < K.length := (List.getElem?_eq_some_iff.1 h2).1
  have hF : K.getD i [] = F := by rw [List.getD_eq_getElem?_getD, h2]; rfl
  have h4 : (usd g K (i + 1)).getD j false = true := by
    rw [usd, hF]
    have := mark_yes g F (usd g K i) _ h3 (by omega) (by rw [usd_len]; omega)
    rwa [show ((g : Int) + (j : Int) - (g : Int)).toNat = j by omega] at this
  have := usd_mono g K j (K.length - (i + 1)) (i + 1) h4
  rwa [show i + 1 + (K.length - (i + 1)) = K.length by omega] at this
theorem Br.eq {w : World} {v : Value} {b c : List Int} (h : Br w v b) (e : b = c) : Br w v c := e ▸ h
set_option maxRecDepth 20000 in
set_option maxHeartbeats 25600000 in
theorem trims_law (W : World) {u0 u1 : Value} {G L : List (List Int)} (h0 : Lr W u0 G) (_e0 : ∀ c ∈ G, ∀ y ∈ c, w64 y) (b0 : Bl G) (h2 : Lr W u1 L) (_e2 : ∀ c ∈ L, ∀ y ∈ c, w64 y) (b2 : Bl L) :
    Calls Try.prog 7 #[u0, u1] W fun ev w' => ev = .returned (.bool true) ∧ Below W.heap.size W w' := by
  obtain ⟨a0, c0, rfl⟩ := h0.out
  obtain ⟨a2, c2, rfl⟩ := h2.out
  obtain ⟨g, hg⟩ : ∃ n, n = G.length := ⟨_, rfl⟩
  obtain ⟨n, hn⟩ : ∃ n, n = L.length := ⟨_, rfl⟩
  rw [← hg] at h0 ⊢
  rw [← hn] at h2 ⊢
  have HG : Hid (Lr W (.slice a0 g c0) G) := h0
  have HL : Hid (Lr W (.slice a2 n c2) L) := h2
  have HNG : Hid (g = G.length ∧ n = L.length) := ⟨hg, hn⟩
  have HBB : Hid (Bl G ∧ Bl L) := ⟨b0, b2⟩
  clear h0 h2 hg hn b0 b2 _e0 _e2
  go_enter Try.func7, Try.ntmps7
  go_wp2_with fail
  refine Calls.mono (known_any W) ?_
  rintro ev w1 ⟨rfl, hb1⟩
  have HB1 : Hid (Below W.heap.size W w1) := hb1
  clear hb1
  go_wp2_with fail
  refine Calls.mono (light_any (HG.out.below HB1.out) (HL.out.below HB1.out) HBB.out.1.1 HBB.out.1.2 HBB.out.2.1 HBB.out.2.2) ?_
  rintro ev w2 ⟨bo, rfl, hbo, hw2⟩
  subst hw2
  cases bo with
  | false =>
    clear hbo
    go_wp2_with fail
    go_ret
    exact ⟨rfl, HB1.out⟩
  | true =>
  have HLG : Hid (lgt G ∧ lgt L) := hbo rfl
  clear hbo
  go_wp2_with fail
  refine Calls.mono (steps_any (HL.out.below HB1.out) (by have := HLG.out.2.2; omega) (fun x hx => by have := HLG.out.2.len x hx; omega)) ?_
  rintro ev w4 ⟨v4, rfl, hG4, hb4⟩
  have HS4 : Hid (Lr w4 v4 L) := hG4.lr
  have HB4 : Hid (Below W.heap.size W w4) := below_step HB1.out hb4
  clear hG4 hb4
  go_wp2_with fail
  refine Calls.mono (encode_any HS4.out (by have := HLG.out.2.sum; omega)) ?_
  rintro ev w5 ⟨v5, rfl, hV5, hb5⟩
  have HV5 : Hid (Br w5 v5 (encF L).1) := hV5
  have HB5 : Hid (Below W.heap.size W w5) := below_step HB4.out hb5
  obtain ⟨e, he⟩ : ∃ e, e = (encF L).2 := ⟨_, rfl⟩
  rw [← he]
  have HE : Hid (e = (encF L).2) := he
  clear hV5 hb5 HB4 HS4 he
  by_cases he : e = 0
  rotate_left
  · have heb : (e == 0) = false := by simp [he]
    have hec : (e != 0) = true := by simp [he]
    go_wp2_with fail
    go_ret
    exact ⟨rfl, HB5.out⟩
  subst he
  go_wp2_with fail
  refine Calls.mono (check_any (HG.out.below HB5.out) HV5.out (by have := HLG.out.1.sum; omega) (enc_len HLG.out.2.sum)) ?_
  rintro ev w6 ⟨rfl, hb6⟩
  have HB6 : Hid (Below W.heap.size W w6) := below_step HB5.out hb6
  have HV6 : Hid (Br w6 v5 (encF L).1) := HV5.out.below hb6
  obtain ⟨was, hwas⟩ : ∃ e, e = chkF G (encF L).1 := ⟨_, rfl⟩
  rw [← hwas]
  have HWAS : Hid (was = endF G L) := by unfold Hid; rw [hwas]; exact chk_enc (by have := HLG.out.2.sum; omega) HE.out.symm
  clear hb6 hwas HV5 HB5
  by_cases hw0 : was = 0
  rotate_left
  · have heb : (was == 0) = false := by simp [hw0]
    have hec : (was != 0) = true := by simp [hw0]
    go_wp2_with fail
    go_ret
    exact ⟨rfl, HB6.out⟩
  subst hw0
  have hLs := HLG.out.2.sum
  obtain ⟨K, hK1, hK2, -⟩ := trim_of (dec_enc (by omega) HE.out.symm) HWAS.out.symm (by omega)
  have hKs : K.length + (K.map List.length).sum ≤ 1000 := by have := hK2.size; omega
  have hKe : (encF K).2 = 0 := enc_ok (ahd_num hK2.ahd (by have := HLG.out.1.2; omega))
  obtain ⟨t, ht⟩ : ∃ t, t = (encF K).1 := ⟨_, rfl⟩
  have heK : encF K = (t, 0) := Prod.ext ht.symm hKe
  have hdK : decF t = (K, 0) := by rw [ht]; exact dec_enc (by omega) hKe
  obtain ⟨K', hK3, -, hK4⟩ := trim_of hdK hK2.ok (by omega)
  have hKK : K' = K := hK4 hK2.used
  subst hKK
  have htl : t.length ≤ 6000 := by rw [ht]; exact enc_len hKs
  have HK : Hid (trmF G (encF L).1 = (t, 0) ∧ trmF G t = (t, 0) ∧ decF t = (K', 0) ∧ chkF G t = 0 ∧ t.length ≤ 6000) := ⟨by rw [hK1, heK], by rw [hK3, heK], hdK, by rw [chk_end hdK, hK2.ok], htl⟩
  have HKU : Hid (Used g K' ∧ Ahd g K' ∧ K'.length ≤ n ∧ K'.length + (K'.map List.length).sum ≤ 1000) := by
    unfold Hid; rw [HNG.out.1, HNG.out.2]; exact ⟨hK2.used, hK2.ahd, hK2.len, hKs⟩
  clear hLs hK1 hK2 hKs hKe ht heK hdK hK3 hK4 htl
  have hgb : g ≤ 200 := by have := HLG.out.1.2; rw [HNG.out.1]; exact this
  have hnb : n ≤ 200 := by have := HLG.out.2.2; rw [HNG.out.2]; exact this
  go_wp2_with fail
  refine Calls.mono (trm_k (HG.out.below HB6.out) HV6.out (by have := HLG.out.1.sum; omega) (enc_len HLG.out.2.sum) HK.out.1) ?_
  rintro ev w7 ⟨v7, rfl, hT7, hb7⟩
  have HT7 : Hid (Br w7 v7 t) := hT7
  have HB7 : Hid (Below W.heap.size W w7) := below_step HB6.out hb7
  clear hT7 hb7 HV6 HB6
  go_wp2_with fail
  refine Calls.mono (trm_k (HG.out.below HB7.out) HT7.out (by have := HLG.out.1.sum; omega) HK.out.2.2.2.2 HK.out.2.1) ?_
  rintro ev w8 ⟨v8, rfl, hU8, hb8⟩
  have HT8 : Hid (Br w8 v7 t) := HT7.out.below hb8
  have HU8 : Hid (Br w8 v8 t) := hU8
  have HB8 : Hid (Below W.heap.size W w8) := below_step HB7.out hb8
  clear hU8 hb8 HT7 HB7
  go_wp2_with fail
  refine Calls.mono (dec_k HT8.out HK.out.2.2.2.2 HK.out.2.2.1) ?_
  rintro ev w9 ⟨v9, rfl, hM9, hb9⟩
  have HT9 : Hid (Br w9 v7 t) := HT8.out.below hb9
  have HU9 : Hid (Br w9 v8 t) := HU8.out.below hb9
  have HM9 : Hid (Lr w9 v9 K') := hM9
  have HB9 : Hid (Below W.heap.size W w9) := below_step HB8.out hb9
  obtain ⟨a9, c9, hv9⟩ := hM9.out
  obtain ⟨q, hq⟩ : ∃ n, n = K'.length := ⟨_, rfl⟩
  rw [← hq] at hv9
  subst hv9
  have HQ : Hid (q = K'.length) := hq
  have hqn : q ≤ n := by have := HKU.out.2.2.1; rw [hq]; exact this
  have hqnI : ¬ (n : Int) < (q : Int) := by omega
  clear hM9 hb9 HT8 HU8 HB8 hq
  go_wp2_with fail
  refine Calls.mono (chk_k (HG.out.below HB9.out) HT9.out (by have := HLG.out.1.sum; omega) HK.out.2.2.2.2 HK.out.2.2.2.1) ?_
  rintro ev w10 ⟨rfl, hb10⟩
  have HT10 : Hid (Br w10 v7 t) := HT9.out.below hb10
  have HU10 : Hid (Br w10 v8 t) := HU9.out.below hb10
  have HM10 : Hid (Lr w10 (.slice a9 q c9) K') := HM9.out.below hb10
  have HB10 : Hid (Below W.heap.size W w10) := below_step HB9.out hb10
  clear hb10 HT9 HU9 HB9 HM9
  go_wp2_with fail
  refine Calls.mono (bytes_sr HT10.out HU10.out (by have := HK.out.2.2.2.2; omega) (by have := HK.out.2.2.2.2; omega)) ?_
  rintro ev w11 ⟨rfl, hb11⟩
  have HM11 : Hid (Lr w11 (.slice a9 q c9) K') := HM10.out.below hb11
  have HB11 : Hid (Below W.heap.size W w11) := below_step HB10.out hb11
  rw [show decide (t = t) = true from by simp]
  obtain ⟨T, hT⟩ : ∃ T, T = w11.heap.size := ⟨_, rfl⟩
  obtain ⟨w12, hw12⟩ : ∃ w1, w1 = w11.alloc (.cells (madeCells #[.bool false] q) 4) := ⟨_, rfl⟩
  have hmk1 : (Instr.makeSlice 55 (.int .i64 (q : Int)) (.int .i64 (q : Int))).run Try.prog w11 = .ok (.slice (some ⟨T, 0, none⟩) q q) w12 := by rw [hT, hw12]; exact run_make_row' (P := Try.prog) 55 4 (.bool false) 1 underBools infoBool rfl .i64 .i64 q (by omega) (by omega) w11
  have HO : Hid (Bo w12 w11.heap.size (.slice (some ⟨T, 0, none⟩) q q) (usd g K' 0) ∧ Below w11.heap.size w11 w12) := by
    refine ⟨?_, by rw [hw12]; go_grown⟩
    have h1 := Bo.made w11 (n := q) (by omega)
    rw [← hw12, ← hT] at h1
    have e2 : usd g K' 0 = List.replicate q false := by rw [usd, HQ.out]
    rw [e2, ← hT]; exact h1
  clear hb11 HT10 HU10 HB10 HM10 hT hw12
  go_wp2_with fail
  clear hmk1
  go_loopw [14] (fun i wr => ∃ k : Nat, k ≤ q ∧ i = .int .i64 (k : Int) ∧ Hid (Bo wr w11.heap.size (.slice (some ⟨T, 0, none⟩) q q) (usd g K' k) ∧ Below w11.heap.size w11 wr)) (fun i wr => q - (intOf i).toNat)
  case atStart => exact ⟨0, Nat.zero_le _, rfl, HO.out⟩
  case round =>
    obtain ⟨k, hk, rfl, hH⟩ := hrel
    by_cases hlt : k < q
    · have hltI : (k : Int) < (q : Int) := by omega
      obtain ⟨F, hF⟩ : ∃ F, K'[k]? = some F := ⟨_, List.getElem?_eq_getElem (by rw [← HQ.out]; exact hlt)⟩
      have HFB : F.length ≤ 1000 := by have := len_sum (List.mem_of_getElem? hF); have := HKU.out.2.2.2; omega
      obtain ⟨r, o, u, rfl, hcu, hSu⟩ := (HM11.out.below hH.out.2).at' hF
      have HSW : Hid (Sr w11 u F) := HM11.out.old hF hH.out.2 hcu
      have HCU : Hid (w11.cell? ⟨r, o + k, none⟩ = some u ∧ r < w11.heap.size) := by
        obtain ⟨r', o', u', e1, e2, -⟩ := HM11.out.at' hF
        injection e1 with e1; injection e1 with e3 e4; subst e3 e4
        refine ⟨?_, World.block_lt_of_cell? _ _ e2⟩
        have := bel_cell hH.out.2 (World.block_lt_of_cell? _ _ e2) e2
        rw [hcu] at this; injection this with this; rw [this]; exact e2
      obtain ⟨au, cu, hue⟩ := hSu.out
      obtain ⟨nu, hnu⟩ : ∃ n, n = F.length := ⟨_, rfl⟩
      rw [← hnu] at hue HFB
      have HNU : Hid _ := hnu
      subst hue
      have hro : r < wr.heap.size := World.block_lt_of_cell? _ _ hcu
      have HAF : Hid (∀ x ∈ F, 0 ≤ x ∧ x < (g : Int) + (k : Int)) := HKU.out.2.1 k F hF
      have HN1 : Hid (usd g K' (k + 1) = mark g (usd g K' k) F) := by
        unfold Hid
        rw [usd, List.getD_eq_getElem?_getD, hF]; rfl
      clear hF hSu hnu
      obtain ⟨wQ, hwQ⟩ : ∃ wQ, wQ = wr := ⟨_, rfl⟩
      subst hwQ
      go_wp2_with fail
      go_loopw [15] (fun i wr => ∃ j : Nat, j ≤ nu ∧ i = .int .i64 (j : Int) ∧ Hid (Bo wr w11.heap.size (.slice (some ⟨T, 0, none⟩) q q) (mark g (usd g K' k) (F.take j)) ∧ Below w11.heap.size w11 wr)) (fun i wr => nu - (intOf i).toNat)
      case atStart => exact ⟨0, Nat.zero_le _, rfl, hH.out⟩
      case round =>
        obtain ⟨j, hj, rfl, hJ⟩ := hrel
        have hcu1 : wr.cell? ⟨r, o + k, none⟩ = some (.slice au nu cu) := bel_cell hJ.out.2 HCU.out.2 HCU.out.1
        have hro1 : r < wr.heap.size := World.block_lt_of_cell? _ _ hcu1
        by_cases hlt2 : j < nu
        · have hltJ : (j : Int) < (nu : Int) := by omega
          have hjl : j < F.length := by rw [← HNU.out]; exact hlt2
          obtain ⟨r2, o2, rfl, hcj⟩ := HSW.out.at' hJ.out.2 hjl
          have hr2 : r2 < wr.heap.size := World.block_lt_of_cell? _ _ hcj
          obtain ⟨hx0, hx1⟩ := HAF.out _ (getD_in hjl)
          have HMT : Hid _ := mark_take (g := g) (nd := usd g K' k) (at_getD hjl)
          obtain ⟨x, hx⟩ : ∃ x : Nat, F.getD j 0 = (x : Int) := ⟨(F.getD j 0).toNat, by omega⟩
          rw [hx] at hcj hx0 hx1 HMT
          clear hx hjl
          by_cases hge : g ≤ x
          · have hgeI : (g : Int) ≤ (x : Int) := by omega
            obtain ⟨y, hy⟩ : ∃ y, y = x - g := ⟨_, rfl⟩
            have hyI : (x : Int) - (g : Int) = (y : Int) := by omega
            have hyn : y < q := by omega
            have hynI : (y : Int) < (q : Int) := by omega
            obtain ⟨hcy, hfy, hpy⟩ := hJ.out.1.put (j := y) (by rw [mark_len, usd_len, ← HQ.out]; exact hyn)
            have HE : Hid (Bo (wr.setCell ⟨T, y, none⟩ (.bool true)) w11.heap.size (.slice (some ⟨T, 0, none⟩) q q) (mark g (usd g K' k) (F.take (j + 1))) ∧ Below w11.heap.size w11 (wr.setCell ⟨T, y, none⟩ (.bool true))) := by
              obtain ⟨p1, p2⟩ := hpy true
              refine ⟨?_, hJ.out.2.trans p2⟩
              rw [HMT.out]
              unfold mark1
              rw [if_pos hgeI, hyI, Int.toNat_natCast]; exact p1
            clear hpy hy
            go_wp2_with fail
            refine ⟨⟨j + 1, by omega, by go_num, HE.out⟩, by simp [intOf]; omega⟩
          · have hgeI : ¬ (g : Int) ≤ (x : Int) := by omega
            have hgeJ : (x : Int) - (g : Int) < 0 := by omega
            have HE : Hid (mark g (usd g K' k) (F.take (j + 1)) = mark g (usd g K' k) (F.take j)) := by
              unfold Hid
              rw [HMT.out]
              unfold mark1
              rw [if_neg hgeI]
            go_wp2_with fail
            refine ⟨⟨j + 1, by omega, by go_num, by rw [HE.out]; exact hJ.out.1, hJ.out.2⟩, by simp [intOf]; omega⟩
        · obtain rfl : j = nu := by omega
          have hltJ : ¬ (j : Int) < (j : Int) := by omega
          have HE : Hid (Bo wr w11.heap.size (.slice (some ⟨T, 0, none⟩) q q) (usd g K' (k + 1)) ∧ Below w11.heap.size w11 wr) := by
            refine ⟨?_, hJ.out.2⟩
            have := hJ.out.1
            rw [HNU.out, List.take_length] at this
            rw [HN1.out]; exact this
          go_wp2_with fail
          refine ⟨⟨k + 1, by omega, by go_num, HE.out⟩, by simp [intOf]; omega⟩
    · obtain rfl : k = q := by omega
      have hltI : ¬ (k : Int) < (k : Int) := by omega
      obtain ⟨w13, hw13⟩ : ∃ w13, w13 = wr := ⟨_, rfl⟩
      subst hw13
      have HO2 : Hid (Bo w13 w11.heap.size (.slice (some ⟨T, 0, none⟩) k k) (usd g K' k) ∧ Below w11.heap.size w11 w13) := hH.out
      clear hH
      go_wp2_with fail
      go_loopw [17] (fun i wr => ∃ j : Nat, j ≤ k ∧ i = .int .i64 (j : Int) ∧ w13 = wr) (fun i wr => k - (intOf i).toNat)
      case atStart => exact ⟨0, Nat.zero_le _, rfl, rfl⟩
      case round =>
        obtain ⟨j, hj, rfl, rfl⟩ := hrel
        by_cases hlt2 : j + 1 < k
        · have hltJ : (j : Int) + 1 < (k : Int) := by omega
          have hltK : (j : Int) < (k : Int) := by omega
          have hltN : j < k := by omega
          obtain ⟨hcj, -, -⟩ := HO2.out.1.put (j := j) (by rw [usd_len, ← HQ.out]; omega)
          have e1 : (usd g K' k).getD j false = true := by
            have := usd_all HKU.out.1 (j := j) (by rw [← HQ.out]; exact hlt2)
            rwa [← HQ.out] at this
          rw [e1] at hcj
          clear e1
          go_wp2_with fail
          exact ⟨⟨j + 1, by omega, by go_num, by first | rfl | trivial⟩, by simp [intOf]; omega⟩
        · have hltJ : ¬ (j : Int) + 1 < (k : Int) := by omega
          go_wp2_with fail
          go_ret
          exact ⟨rfl, below_step HB11.out HO2.out.2⟩
end Go.Proofs.Ythdgmkjjpmigeaa
