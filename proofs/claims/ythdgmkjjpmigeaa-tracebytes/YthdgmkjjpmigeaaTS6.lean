/- TraceBytes: the walk. -/
import Derived.Test.YthdgmkjjpmigeaaTP8
namespace Go.Proofs.Ythdgmkjjpmigeaa
open Go.RowKit
set_option linter.unusedSimpArgs false
set_option linter.unusedVariables false

theorem lists_kk {w : World} {u v : Value} {C : List (List Int)} (h : Lr w u C) (h' : Lr w v C) (hl : C.length ≤ 1000000) (hc : ∀ x ∈ C, x.length ≤ 1000000) :
    Calls Try.prog 18 #[u, v] w fun e w' => e = .returned (.bool true) ∧ Below w.heap.size w w' := by
  have := lists_same h h' hl hl hc hc
  rw [show decide (C = C) = true from by simp] at this
  exact this
theorem bytes_k {w : World} {u v : Value} {b : List Int} (h : Br w u b) (h' : Br w v b) (hl : b.length ≤ 1000000) :
    Calls Try.prog 17 #[u, v] w fun e w' => e = .returned (.bool true) ∧ Below w.heap.size w w' := by
  have := bytes_sr h h' hl hl
  rw [show decide (b = b) = true from by simp] at this
  exact this
theorem Br.sl2 {w : World} {v : Value} {l : List Int} (h : Br w v l) : ∃ a m k, v = .slice a m k ∧ Hid (m = l.length) := by
  obtain ⟨a, c, e, -⟩ := h.out
  exact ⟨a, _, c, e, rfl⟩
set_option maxRecDepth 20000 in
set_option maxHeartbeats 25600000 in
theorem bytes_law (W : World) {u0 u1 : Value} {L : List (List Int)} {b : List Int} (h0 : Lr W u0 L) (e0 : ∀ c ∈ L, ∀ y ∈ c, w64 y) (b0 : Bl L) (h1 : Br W u1 b) :
    Calls Try.prog 3 #[u0, u1] W fun ev w' => ev = .returned (.bool true) ∧ Below W.heap.size W w' := by
  obtain ⟨a0, c0, rfl⟩ := h0.out
  obtain ⟨a1, nb, c1, rfl, hnb⟩ := h1.sl2
  obtain ⟨n, hn⟩ : ∃ n, n = L.length := ⟨_, rfl⟩
  rw [← hn] at h0 ⊢
  have HL : Hid (Lr W (.slice a0 n c0) L) := h0
  have HV : Hid (Br W (.slice a1 nb c1) b) := h1
  have HNB : Hid (nb = b.length) := hnb
  have HBB : Hid (Bl L) := b0
  have HW : Hid (∀ c ∈ L, ∀ y ∈ c, w64 y) := e0
  clear h0 h1 hn b0 e0 hnb
  go_enter Try.func3, Try.ntmps3
  go_wp2_with fail
  refine Calls.mono (known_any W) ?_
  rintro ev w1 ⟨rfl, hb1⟩
  have HB1 : Hid (Below W.heap.size W w1) := hb1
  clear hb1
  go_wp2_with fail
  refine Calls.mono (light_any (Lr.nil w1) (HL.out.below HB1.out) (by decide) (fun x hx => by simp at hx) HBB.out.1 HBB.out.2) ?_
  rintro ev w2 ⟨bo, rfl, hbo, hw2⟩
  subst hw2
  cases bo with
  | false =>
    clear hbo
    go_wp2_with fail
    go_ret
    exact ⟨rfl, HB1.out⟩
  | true =>
  have HLG : Hid (lgt L) := (hbo rfl).2
  clear hbo
  by_cases hbl : 6000 < nb
  · have hblI : (6000 : Int) < (nb : Int) := by omega
    go_wp2_with fail
    go_ret
    exact ⟨rfl, HB1.out⟩
  have hblI : ¬ (6000 : Int) < (nb : Int) := by omega
  have HBL : Hid (b.length ≤ 6000) := by unfold Hid; rw [← HNB.out]; omega
  have HLS : Hid (L.length ≤ 200 ∧ L.length + (L.map List.length).sum ≤ 1000 ∧ ∀ x ∈ L, x.length ≤ 1000) := ⟨HLG.out.2, HLG.out.sum, HLG.out.len⟩
  go_wp2_with fail
  refine Calls.mono (steps_any (HL.out.below HB1.out) (by have := HLS.out.1; omega) (fun x hx => by have := HLS.out.2.2 x hx; omega)) ?_
  rintro ev w4 ⟨v4, rfl, hG4, hb4⟩
  have HS4 : Hid (Lr w4 v4 L) := hG4.lr
  have HB4 : Hid (Below W.heap.size W w4) := below_step HB1.out hb4
  clear hG4 hb4 HB1 hblI
  obtain ⟨E, hE⟩ : ∃ E, E = encF L := ⟨_, rfl⟩
  have HEN : Hid _ := encode_any HS4.out (by have := HLS.out.2.1; omega)
  have HRE : Hid (∀ wx, Below W.heap.size W wx → Calls Try.prog 13 #[.slice a0 n c0] wx fun ev w' => ∃ v', ev = .returned (.tuple #[v', .int .i64 E.2]) ∧ Br w' v' E.1 ∧ Below wx.heap.size wx w') := by
    intro wx hb; rw [hE]
    exact rencode_any (HL.out.below hb) (by have := HLS.out.2.1; omega) HW.out
  have HEL : Hid (E.1.length ≤ 6000) := by unfold Hid; rw [hE]; exact enc_len HLS.out.2.1
  have HED : Hid (E.2 = 0 → decF E.1 = (L, 0)) := by unfold Hid; rw [hE]; exact dec_enc (by have := HLS.out.2.1; omega)
  rw [← hE] at HEN
  clear hE
  obtain ⟨eb, ee⟩ := E
  go_wp2_with fail
  refine Calls.mono HEN.out ?_
  rintro ev w5 ⟨v5, rfl, hX5, hb5⟩
  have HX5 : Hid (Br w5 v5 eb) := hX5
  have HS5 : Hid (Lr w5 v4 L) := HS4.out.below hb5
  have HB5 : Hid (Below W.heap.size W w5) := below_step HB4.out hb5
  clear hX5 hb5 HS4 HB4 HEN
  go_wp2_with fail
  refine Calls.mono (HRE.out w5 HB5.out) ?_
  rintro ev w6 ⟨v6, rfl, hY6, hb6⟩
  have HY6 : Hid (Br w6 v6 eb) := hY6
  have HX6 : Hid (Br w6 v5 eb) := HX5.out.below hb6
  have HS6 : Hid (Lr w6 v4 L) := HS5.out.below hb6
  have HB6 : Hid (Below W.heap.size W w6) := below_step HB5.out hb6
  clear hY6 hb6 HS5 HB5 HX5 HRE
  go_wp2_with fail
  refine Calls.mono (copyBytes_any (HV.out.below HB6.out) (by have := HBL.out; omega)) ?_
  rintro ev w7 ⟨v7, rfl, hI7, hb7⟩
  have HI7 : Hid (Br w7 v7 b) := hI7.br
  have HY7 : Hid (Br w7 v6 eb) := HY6.out.below hb7
  have HX7 : Hid (Br w7 v5 eb) := HX6.out.below hb7
  have HS7 : Hid (Lr w7 v4 L) := HS6.out.below hb7
  have HB7 : Hid (Below W.heap.size W w7) := below_step HB6.out hb7
  clear hI7 hb7 HS6 HB6 HX6 HY6
  obtain ⟨D, hD⟩ : ∃ D, D = decF b := ⟨_, rfl⟩
  have HDE : Hid _ := decode_any HI7.out (by have := HBL.out; omega)
  have HRD : Hid (∀ wx, Below W.heap.size W wx → Calls Try.prog 16 #[.slice a1 nb c1] wx fun ev w' => ∃ v', ev = .returned (.tuple #[v', .int .i64 D.2]) ∧ Lr w' v' D.1 ∧ Below wx.heap.size wx w') := by
    intro wx hb; rw [hD, ← dec_same HV.out.byte (by have := HBL.out; omega)]
    exact rdecode_any (HV.out.below hb) (by have := HBL.out; omega)
  have HDS : Hid (D.1.length + (D.1.map List.length).sum ≤ 1500) := by unfold Hid; rw [hD]; have := decF_len b; have := HBL.out; omega
  have HDB : Hid (D.2 = 0 → encF D.1 = (b, 0)) := by unfold Hid; rw [hD]; exact enc_dec HV.out.byte
  rw [← hD] at HDE
  clear hD
  obtain ⟨DL, de⟩ := D
  have HDN : Hid (DL.length ≤ 1500 ∧ ∀ x ∈ DL, x.length ≤ 1500) := by
    have h9 : DL.length + (DL.map List.length).sum ≤ 1500 := HDS.out
    exact ⟨by omega, fun x hx => by have := len_sum hx; omega⟩
  go_wp2_with fail
  refine Calls.mono HDE.out ?_
  rintro ev w8 ⟨v8, rfl, hM8, hb8⟩
  have HM8 : Hid (Lr w8 v8 DL) := hM8
  have HI8 : Hid (Br w8 v7 b) := HI7.out.below hb8
  have HY8 : Hid (Br w8 v6 eb) := HY7.out.below hb8
  have HX8 : Hid (Br w8 v5 eb) := HX7.out.below hb8
  have HS8 : Hid (Lr w8 v4 L) := HS7.out.below hb8
  have HB8 : Hid (Below W.heap.size W w8) := below_step HB7.out hb8
  clear hM8 hb8 HS7 HB7 HX7 HY7 HI7 HDE
  go_wp2_with fail
  refine Calls.mono (HRD.out w8 HB8.out) ?_
  rintro ev w9 ⟨v9, rfl, hN9, hb9⟩
  have HN9 : Hid (Lr w9 v9 DL) := hN9
  have HM9 : Hid (Lr w9 v8 DL) := HM8.out.below hb9
  have HI9 : Hid (Br w9 v7 b) := HI8.out.below hb9
  have HY9 : Hid (Br w9 v6 eb) := HY8.out.below hb9
  have HX9 : Hid (Br w9 v5 eb) := HX8.out.below hb9
  have HS9 : Hid (Lr w9 v4 L) := HS8.out.below hb9
  have HB9 : Hid (Below W.heap.size W w9) := below_step HB8.out hb9
  clear hN9 hb9 HS8 HB8 HX8 HY8 HI8 HM8 HRD
  have he1 : (ee == ee) = true := by simp
  have he2 : (ee != ee) = false := by simp
  have hd1 : (de == de) = true := by simp
  have hd2 : (de != de) = false := by simp
  go_wp2_with fail
  refine Calls.mono (bytes_k HX9.out HY9.out (by have h9 : eb.length ≤ 6000 := HEL.out; omega)) ?_
  rintro ev w10 ⟨rfl, hb10⟩
  have HN10 : Hid (Lr w10 v9 DL) := HN9.out.below hb10
  have HM10 : Hid (Lr w10 v8 DL) := HM9.out.below hb10
  have HI10 : Hid (Br w10 v7 b) := HI9.out.below hb10
  have HX10 : Hid (Br w10 v5 eb) := HX9.out.below hb10
  have HS10 : Hid (Lr w10 v4 L) := HS9.out.below hb10
  have HB10 : Hid (Below W.heap.size W w10) := below_step HB9.out hb10
  clear hb10 HS9 HB9 HX9 HY9 HI9 HM9 HN9
  go_wp2_with fail
  refine Calls.mono (lists_any HM10.out (by have := HDN.out.1; omega) (fun x hx => by have := HDN.out.2 x hx; omega)) ?_
  rintro ev w11 ⟨v11, rfl, hG11, hb11⟩
  have HK11 : Hid (Lr w11 v11 DL) := hG11.lr
  have HN11 : Hid (Lr w11 v9 DL) := HN10.out.below hb11
  have HM11 : Hid (Lr w11 v8 DL) := HM10.out.below hb11
  have HI11 : Hid (Br w11 v7 b) := HI10.out.below hb11
  have HX11 : Hid (Br w11 v5 eb) := HX10.out.below hb11
  have HS11 : Hid (Lr w11 v4 L) := HS10.out.below hb11
  have HB11 : Hid (Below W.heap.size W w11) := below_step HB10.out hb11
  clear hG11 hb11 HS10 HB10 HX10 HI10 HM10 HN10
  go_wp2_with fail
  refine Calls.mono (lists_kk HK11.out HN11.out (by have := HDN.out.1; omega) (fun x hx => by have := HDN.out.2 x hx; omega)) ?_
  rintro ev w12 ⟨rfl, hb12⟩
  have HM12 : Hid (Lr w12 v8 DL) := HM11.out.below hb12
  have HI12 : Hid (Br w12 v7 b) := HI11.out.below hb12
  have HX12 : Hid (Br w12 v5 eb) := HX11.out.below hb12
  have HS12 : Hid (Lr w12 v4 L) := HS11.out.below hb12
  have HB12 : Hid (Below W.heap.size W w12) := below_step HB11.out hb12
  clear hb12 HS11 HB11 HX11 HI11 HM11 HN11 HK11
  go_wp2_with fail
  refine Calls.mono (bytes_k HI12.out (HV.out.below HB12.out) (by have := HBL.out; omega)) ?_
  rintro ev w13 ⟨rfl, hb13⟩
  have HM13 : Hid (Lr w13 v8 DL) := HM12.out.below hb13
  have HX13 : Hid (Br w13 v5 eb) := HX12.out.below hb13
  have HS13 : Hid (Lr w13 v4 L) := HS12.out.below hb13
  have HB13 : Hid (Below W.heap.size W w13) := below_step HB12.out hb13
  clear hb13 HS12 HB12 HX12 HI12 HM12
  go_wp2_with fail
  refine Calls.mono (lists_any HS13.out (by have := HLS.out.1; omega) (fun x hx => by have := HLS.out.2.2 x hx; omega)) ?_
  rintro ev w14 ⟨v14, rfl, hG14, hb14⟩
  have HK14 : Hid (Lr w14 v14 L) := hG14.lr
  have HM14 : Hid (Lr w14 v8 DL) := HM13.out.below hb14
  have HX14 : Hid (Br w14 v5 eb) := HX13.out.below hb14
  have HB14 : Hid (Below W.heap.size W w14) := below_step HB13.out hb14
  clear hG14 hb14 HS13 HB13 HX13 HM13
  go_wp2_with fail
  refine Calls.mono (lists_kk HK14.out (HL.out.below HB14.out) (by have := HLS.out.1; omega) (fun x hx => by have := HLS.out.2.2 x hx; omega)) ?_
  rintro ev w15 ⟨rfl, hb15⟩
  have HM15 : Hid (Lr w15 v8 DL) := HM14.out.below hb15
  have HX15 : Hid (Br w15 v5 eb) := HX14.out.below hb15
  have HB15 : Hid (Below W.heap.size W w15) := below_step HB14.out hb15
  clear hb15 HK14 HB14 HX14 HM14
  by_cases hee : ee = 0
  · subst hee
    have HDK : Hid _ := dec_k HX15.out (by have h9 : eb.length ≤ 6000 := HEL.out; omega) (HED.out (by first | trivial | rfl))
    go_wp2_with fail
    refine Calls.mono HDK.out ?_
    rintro ev w16 ⟨v16, rfl, hL16, hb16⟩
    have HL16 : Hid (Lr w16 v16 L) := hL16
    have HM16 : Hid (Lr w16 v8 DL) := HM15.out.below hb16
    have HB16 : Hid (Below W.heap.size W w16) := below_step HB15.out hb16
    clear hL16 hb16 HM15 HB15 HX15 HDK
    go_wp2_with fail
    refine Calls.mono (lists_any HL16.out (by have := HLS.out.1; omega) (fun x hx => by have := HLS.out.2.2 x hx; omega)) ?_
    rintro ev w17 ⟨v17, rfl, hG17, hb17⟩
    have HK17 : Hid (Lr w17 v17 L) := hG17.lr
    have HM17 : Hid (Lr w17 v8 DL) := HM16.out.below hb17
    have HB17 : Hid (Below W.heap.size W w17) := below_step HB16.out hb17
    clear hG17 hb17 HM16 HB16
    go_wp2_with fail
    refine Calls.mono (lists_kk HK17.out (HL.out.below HB17.out) (by have := HLS.out.1; omega) (fun x hx => by have := HLS.out.2.2 x hx; omega)) ?_
    rintro ev w18 ⟨rfl, hb18⟩
    have HM18 : Hid (Lr w18 v8 DL) := HM17.out.below hb18
    have HB18 : Hid (Below W.heap.size W w18) := below_step HB17.out hb18
    clear hb18 HM17 HB17 HK17
    by_cases hde : de = 0
    · subst hde
      have HEK : Hid _ := enc_k HM18.out (by have h9 : DL.length + (DL.map List.length).sum ≤ 1500 := HDS.out; omega) (HDB.out (by first | trivial | rfl))
      go_wp2_with fail
      refine Calls.mono HEK.out ?_
      rintro ev w19 ⟨v19, rfl, hX19, hb19⟩
      have HX19 : Hid (Br w19 v19 b) := hX19
      have HB19 : Hid (Below W.heap.size W w19) := below_step HB18.out hb19
      clear hX19 hb19 HEK
      go_wp2_with fail
      refine Calls.mono (bytes_k HX19.out (HV.out.below HB19.out) (by have := HBL.out; omega)) ?_
      rintro ev w20 ⟨rfl, hb20⟩
      have HB20 : Hid (Below W.heap.size W w20) := below_step HB19.out hb20
      clear hb20
      go_wp2_with fail
      refine bodyPost_ret (results_tmp rfl _ _ _) rfl ?_
      exact ⟨rfl, HB20.out⟩
    · have hdb : (de == 0) = false := by simp [hde]
      have hdc : (de != 0) = true := by simp [hde]
      go_wp2_with fail
      refine bodyPost_ret (results_tmp rfl _ _ _) rfl ?_
      exact ⟨rfl, HB18.out⟩
  · have heb : (ee == 0) = false := by simp [hee]
    have hec : (ee != 0) = true := by simp [hee]
    obtain ⟨w18, hw18⟩ : ∃ w, w = w15 := ⟨_, rfl⟩
    subst hw18
    have HM18 : Hid (Lr w18 v8 DL) := HM15.out
    have HB18 : Hid (Below W.heap.size W w18) := HB15.out
    by_cases hde : de = 0
    · subst hde
      have HEK : Hid _ := enc_k HM18.out (by have h9 : DL.length + (DL.map List.length).sum ≤ 1500 := HDS.out; omega) (HDB.out (by first | trivial | rfl))
      go_wp2_with fail
      refine Calls.mono HEK.out ?_
      rintro ev w19 ⟨v19, rfl, hX19, hb19⟩
      have HX19 : Hid (Br w19 v19 b) := hX19
      have HB19 : Hid (Below W.heap.size W w19) := below_step HB18.out hb19
      clear hX19 hb19 HEK
      go_wp2_with fail
      refine Calls.mono (bytes_k HX19.out (HV.out.below HB19.out) (by have := HBL.out; omega)) ?_
      rintro ev w20 ⟨rfl, hb20⟩
      have HB20 : Hid (Below W.heap.size W w20) := below_step HB19.out hb20
      clear hb20
      go_wp2_with fail
      refine bodyPost_ret (results_tmp rfl _ _ _) rfl ?_
      exact ⟨rfl, HB20.out⟩
    · have hdb : (de == 0) = false := by simp [hde]
      have hdc : (de != 0) = true := by simp [hde]
      go_wp2_with fail
      refine bodyPost_ret (results_tmp rfl _ _ _) rfl ?_
      exact ⟨rfl, HB18.out⟩
end Go.Proofs.Ythdgmkjjpmigeaa
