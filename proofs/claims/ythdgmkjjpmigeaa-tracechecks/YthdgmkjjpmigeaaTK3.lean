/- Contracts (the law's helps): known: the chapter's examples. -/
import Derived.Test.YthdgmkjjpmigeaaTK2
namespace Go.Proofs.Ythdgmkjjpmigeaa
open Go.RowKit
set_option linter.unusedSimpArgs false
set_option linter.unusedVariables false

theorem st1 {w : World} {s : Nat} (hs : s = w.heap.size) (l : List Int) (hl : l.length ≤ 1000) :
    Calls Try.prog 11 #[.slice (some ⟨s + 1, 0, none⟩) 1 1] ((w.alloc (lob l)).alloc (.cells #[.slice (some ⟨s, 0, none⟩) l.length l.length] 51)) fun ev w' => ∃ v', ev = .returned v' ∧ Lr w' v' [l] ∧ Below w.heap.size w w' := by
  subst hs
  have hb : Below w.heap.size w ((w.alloc (lob l)).alloc (.cells #[.slice (some ⟨w.heap.size, 0, none⟩) l.length l.length] 51)) := below_step (below_alloc _ _) (below_alloc _ _)
  refine (steps_any (lr1 w l) (by simp) (fun x hx => by simp at hx; subst hx; omega)).mono ?_
  rintro ev w' ⟨v', rfl, h1, h2⟩
  exact ⟨v', rfl, h1.lr, below_step hb h2⟩
theorem st2 {w : World} {s : Nat} (hs : s = w.heap.size) (l m : List Int) (hl : l.length ≤ 1000) (hm : m.length ≤ 1000) :
    Calls Try.prog 11 #[.slice (some ⟨s + 1 + 1, 0, none⟩) 2 2] (((w.alloc (lob l)).alloc (lob m)).alloc (.cells #[.slice (some ⟨s, 0, none⟩) l.length l.length, .slice (some ⟨s + 1, 0, none⟩) m.length m.length] 51)) fun ev w' => ∃ v', ev = .returned v' ∧ Lr w' v' [l, m] ∧ Below w.heap.size w w' := by
  subst hs
  have hb : Below w.heap.size w (((w.alloc (lob l)).alloc (lob m)).alloc (.cells #[.slice (some ⟨w.heap.size, 0, none⟩) l.length l.length, .slice (some ⟨w.heap.size + 1, 0, none⟩) m.length m.length] 51)) := below_step (below_step (below_alloc _ _) (below_alloc _ _)) (below_alloc _ _)
  refine (steps_any (lr2 w l m) (by simp) (fun x hx => by simp at hx; rcases hx with rfl | rfl <;> omega)).mono ?_
  rintro ev w' ⟨v', rfl, h1, h2⟩
  exact ⟨v', rfl, h1.lr, below_step hb h2⟩
theorem enc_k {w : World} {v : Value} {C : List (List Int)} {b : List Int} (h : Lr w v C) (hs : C.length + (C.map List.length).sum ≤ 3000) (he : encF C = (b, 0)) :
    Calls Try.prog 12 #[v] w fun ev w' => ∃ v', ev = .returned (.tuple #[v', .int .i64 0]) ∧ Br w' v' b ∧ Below w.heap.size w w' := by
  have := encode_any h hs
  rw [he] at this
  exact this
theorem dec_k {w : World} {v : Value} {b : List Int} {C : List (List Int)} {e : Int} (h : Br w v b) (hs : b.length ≤ 6000) (he : decF b = (C, e)) :
    Calls Try.prog 15 #[v] w fun ev w' => ∃ v', ev = .returned (.tuple #[v', .int .i64 e]) ∧ Lr w' v' C ∧ Below w.heap.size w w' := by
  have := decode_any h (by omega)
  rw [he] at this
  exact this
theorem der_k {w : World} {v u : Value} {G L D : List (List Int)} {e : Int} (h : Lr w v G) (h' : Lr w u L) (gG : G.length + (G.map List.length).sum ≤ 2000) (gL : L.length ≤ 2000) (gLl : ∀ x ∈ L, x.length ≤ 2000 ∧ ∀ y ∈ x, w64 y) (he : derF G L = (D, e)) :
    Calls Try.prog 21 #[v, u] w fun ev w' => ∃ v', ev = .returned (.tuple #[v', .int .i64 e]) ∧ Lr w' v' D ∧ Below w.heap.size w w' := by
  have := derive_any h h' gG gL gLl
  rw [he] at this
  exact this
theorem chk_k {w : World} {v u : Value} {G : List (List Int)} {b : List Int} {e : Int} (h : Lr w v G) (h' : Br w u b) (gG : G.length + (G.map List.length).sum ≤ 2000) (gb : b.length ≤ 6000) (he : chkF G b = e) :
    Calls Try.prog 25 #[v, u] w fun ev w' => ev = .returned (.int .i64 e) ∧ Below w.heap.size w w' := by
  have := check_any h h' gG gb
  rw [he] at this
  exact this
theorem trm_k {w : World} {v u : Value} {G : List (List Int)} {b t : List Int} {e : Int} (h : Lr w v G) (h' : Br w u b) (gG : G.length + (G.map List.length).sum ≤ 2000) (gb : b.length ≤ 6000) (he : trmF G b = (t, e)) :
    Calls Try.prog 23 #[v, u] w fun ev w' => ∃ v', ev = .returned (.tuple #[v', .int .i64 e]) ∧ Br w' v' t ∧ Below w.heap.size w w' := by
  have := trim_any h h' gG gb
  rw [he] at this
  exact this
theorem k5' : derF [[1, 2], [-1, -2]] [[0, 1]] = ([], 121) := by decide
theorem k6' : decF (KB.take 23) = ([], 120) := by decide
theorem k9' : chkF (KC.take 2) KB = 121 := by decide
theorem w64_01 : ∀ x ∈ ([[0, 1]] : List (List Int)), x.length ≤ 2000 ∧ ∀ y ∈ x, w64 y := by
  unfold w64
  decide
theorem Lr.slice' {w : World} {v : Value} {C : List (List Int)} {n : Nat} (h : Lr w v C) (hn : C.length = n) : ∃ a c, v = .slice a n c := by subst hn; exact h.out
theorem Lr.take {w : World} {r o n c : Nat} {C : List (List Int)} (h : Lr w (.slice (some ⟨r, o, none⟩) n c) C) {k : Nat} (hk : k ≤ C.length) : Lr w (.slice (some ⟨r, o, none⟩) k c) (C.take k) := by
  obtain ⟨a', c', e, h2⟩ := h.ex
  injection e with e1 e2 e3
  subst e1
  refine ⟨_, c, by rw [List.length_take, Nat.min_eq_left hk], ?_⟩
  rcases h2 with h2 | ⟨r', o', h3, h4, h5⟩
  · exact Or.inl (by rw [h2]; simp)
  · injection h3 with h3
    injection h3 with h6 h7
    subst h6 h7
    refine Or.inr ⟨r, o, rfl, h4, fun i x hx => h5 i x ?_⟩
    rw [List.getElem?_take] at hx
    split at hx
    · exact hx
    · cases hx
theorem Br.slice' {w : World} {v : Value} {C : List Int} {n : Nat} (h : Br w v C) (hn : C.length = n) : ∃ a c, v = .slice a n c ∧ n ≤ c := by subst hn; exact h.out
set_option maxRecDepth 20000 in
set_option maxHeartbeats 25600000 in
theorem known_any (w : World) :
    Calls Try.prog 9 #[] w fun ev w' => ev = .returned (.bool true) ∧ Below w.heap.size w w' := by
  have HL0 : Hid _ := lr3 w [1] [-1, 2] [-2]
  go_enter Try.func9, Try.ntmps9
  go_wp2_with fail
  refine Calls.mono (st1 (s := w.heap.size + 1 + 1 + 1 + 1) (by simp) [0, 1, 2] (by decide)) ?_
  rintro ev w1 ⟨v1, rfl, hL1, hb1⟩
  have HC1 : Hid (Lr w1 (.slice (some ⟨w.heap.size + 1 + 1 + 1, 0, none⟩) 3 3) KC) := HL0.out.below hb1
  have HB1 : Hid (Below w.heap.size w w1) := below_step (below_step (below_step (below_step (below_alloc _ _) (below_alloc _ _)) (below_alloc _ _)) (below_alloc _ _)) hb1
  have HL1 : Hid (Lr w1 v1 [[0, 1, 2]]) := hL1
  obtain ⟨s, hs⟩ : ∃ s, s = w.heap.size + 1 + 1 + 1 := ⟨_, rfl⟩
  rw [← hs] at HC1 ⊢
  clear hL1 hb1 HL0 hs
  go_wp2_with fail
  refine Calls.mono (enc_k HL1.out (by decide) k1) ?_
  rintro ev w2 ⟨v2, rfl, hV2, hb2⟩
  have HC2 : Hid _ := HC1.out.below hb2
  have HV2 : Hid (Br w2 v2 KB) := hV2
  have HB2 : Hid (Below w.heap.size w w2) := below_step HB1.out hb2
  obtain ⟨ab, cb, hv2, hcb⟩ := hV2.slice' (n := 24) rfl
  subst hv2
  clear hV2 hb2 HC1 HB1 HL1
  go_wp2_with fail
  refine Calls.mono (st2 (s := w2.heap.size) rfl [1, 2] [3, 0] (by decide) (by decide)) ?_
  rintro ev w3 ⟨v3, rfl, hL3, hb3⟩
  have HC3 : Hid _ := HC2.out.below hb3
  have HV3 : Hid _ := HV2.out.below hb3
  have HL3 : Hid (Lr w3 v3 [[1, 2], [3, 0]]) := hL3
  have HB3 : Hid (Below w.heap.size w w3) := below_step HB2.out hb3
  clear hL3 hb3 HC2 HV2 HB2
  go_wp2_with fail
  refine Calls.mono (enc_k HL3.out (by decide) k2) ?_
  rintro ev w4 ⟨v4, rfl, hV4, hb4⟩
  have HC4 : Hid _ := HC3.out.below hb4
  have HV4 : Hid _ := HV3.out.below hb4
  have HD4 : Hid (Br w4 v4 KD) := hV4
  have HB4 : Hid (Below w.heap.size w w4) := below_step HB3.out hb4
  clear hV4 hb4 HC3 HV3 HB3 HL3
  go_wp2_with fail
  refine Calls.mono (dec_k HV4.out (by decide) k3) ?_
  rintro ev w5 ⟨v5, rfl, hL5, hb5⟩
  have HC5 : Hid _ := HC4.out.below hb5
  have HV5 : Hid _ := HV4.out.below hb5
  have HD5 : Hid _ := HD4.out.below hb5
  have HB5 : Hid (Below w.heap.size w w5) := below_step HB4.out hb5
  obtain ⟨al, cl, hv5⟩ := hL5.slice' (n := 1) rfl
  subst hv5
  clear hL5 hb5 HC4 HV4 HB4 HD4
  go_wp2_with fail
  refine Calls.mono (st1 (s := w5.heap.size) rfl [0, 1] (by decide)) ?_
  rintro ev w6 ⟨v6, rfl, hL6, hb6⟩
  have HC6 : Hid _ := HC5.out.below hb6
  have HV6 : Hid _ := HV5.out.below hb6
  have HD6 : Hid _ := HD5.out.below hb6
  have HL6 : Hid (Lr w6 v6 [[0, 1]]) := hL6
  have HB6 : Hid (Below w.heap.size w w6) := below_step HB5.out hb6
  clear hL6 hb6 HC5 HV5 HB5 HD5
  go_wp2_with fail
  refine Calls.mono (der_k HC6.out HL6.out (by decide) (by decide) w64_01 k4) ?_
  rintro ev w7 ⟨v7, rfl, hX7, hb7⟩
  have HC7 : Hid _ := HC6.out.below hb7
  have HV7 : Hid _ := HV6.out.below hb7
  have HD7 : Hid _ := HD6.out.below hb7
  have HX7 : Hid (Lr w7 v7 [[2]]) := hX7
  have HB7 : Hid (Below w.heap.size w w7) := below_step HB6.out hb7
  obtain ⟨ax, cx, hv7⟩ := hX7.slice' (n := 1) rfl
  subst hv7
  clear hX7 hb7 HC6 HV6 HB6 HD6 HL6
  go_wp2_with fail
  refine Calls.mono (st1 (w := (((w7.alloc (lob [1, 2])).alloc (lob [-1, -2])).alloc (.cells #[.slice (some ⟨w7.heap.size, 0, none⟩) 2 2, .slice (some ⟨w7.heap.size + 1, 0, none⟩) 2 2] 51))) (s := w7.heap.size + 1 + 1 + 1) (by simp) [0, 1] (by decide)) ?_
  rintro ev w8 ⟨v8, rfl, hL8, hb8⟩
  have HG8 : Hid (Lr w8 (.slice (some ⟨w7.heap.size + 1 + 1, 0, none⟩) 2 2) [[1, 2], [-1, -2]]) := (lr2 w7 [1, 2] [-1, -2]).below hb8
  have hb9 : Below w7.heap.size w7 w8 := below_step (below_step (below_step (below_alloc _ _) (below_alloc _ _)) (below_alloc _ _)) hb8
  have HC8 : Hid _ := HC7.out.below hb9
  have HV8 : Hid _ := HV7.out.below hb9
  have HD8 : Hid _ := HD7.out.below hb9
  have HX8 : Hid _ := HX7.out.below hb9
  have HL8 : Hid (Lr w8 v8 [[0, 1]]) := hL8
  have HB8 : Hid (Below w.heap.size w w8) := below_step HB7.out hb9
  obtain ⟨s8, hs8⟩ : ∃ s, s = w7.heap.size + 1 + 1 := ⟨_, rfl⟩
  rw [← hs8] at HG8 ⊢
  clear hL8 hb8 hb9 HC7 HV7 HB7 HD7 HX7 hs8
  go_wp2_with fail
  refine Calls.mono (der_k HG8.out HL8.out (by decide) (by decide) w64_01 k5') ?_
  rintro ev w9 ⟨v9, rfl, -, hb9⟩
  have HC9 : Hid _ := HC8.out.below hb9
  have HV9 : Hid _ := HV8.out.below hb9
  have HD9 : Hid _ := HD8.out.below hb9
  have HX9 : Hid _ := HX8.out.below hb9
  have HB9 : Hid (Below w.heap.size w w9) := below_step HB8.out hb9
  clear hb9 HC8 HV8 HB8 HD8 HX8 HG8 HL8
  obtain ⟨gb, ob, rfl, hcb0⟩ := HV9.out.at' (Below.refl _ _) (k := 0) (by decide)
  obtain ⟨gx, ox, ux, rfl, hcx, hSx⟩ := HX9.out.at' (k := 0) (x := [2]) rfl
  have HSX : Hid (Sr w9 ux [2]) := hSx
  rw [show KB.getD 0 0 = 80 from rfl] at hcb0
  clear hSx HX9
  rw [Nat.add_zero] at hcb0 hcx
  go_wp2_with fail
  refine Calls.mono (ints_sr (HSX.out.below (below_alloc w9 (lob [2]))) (sr_new w9 [2]) (by decide) (by decide)) ?_
  rintro ev w10 ⟨rfl, hb10⟩
  have hb11 : Below w9.heap.size w9 w10 := below_step (below_alloc _ _) hb10
  have HC10 : Hid _ := HC9.out.below hb11
  have HV10 : Hid _ := HV9.out.below hb11
  have HD10 : Hid _ := HD9.out.below hb11
  have HB10 : Hid (Below w.heap.size w w10) := below_step HB9.out hb11
  rw [show decide (([2] : List Int) = [2]) = true from rfl]
  clear hb10 hb11 HC9 HV9 HB9 HD9 HSX hcx hcb0
  go_wp2_with fail
  refine Calls.mono (trm_k HC10.out HD10.out (by decide) (by decide) k10) ?_
  rintro ev w11 ⟨v11, rfl, hT11, hb11⟩
  have HC11 : Hid _ := HC10.out.below hb11
  have HV11 : Hid _ := HV10.out.below hb11
  have HD11 : Hid _ := HD10.out.below hb11
  have HT11 : Hid (Br w11 v11 KD) := hT11
  have HB11 : Hid (Below w.heap.size w w11) := below_step HB10.out hb11
  clear hT11 hb11 HC10 HV10 HB10 HD10
  go_wp2_with fail
  refine Calls.mono (dec_k (HV11.out.take (k := 23) (by decide)) (by decide) k6') ?_
  rintro ev w12 ⟨v12, rfl, -, hb12⟩
  have HC12 : Hid _ := HC11.out.below hb12
  have HV12 : Hid _ := HV11.out.below hb12
  have HD12 : Hid _ := HD11.out.below hb12
  have HT12 : Hid _ := HT11.out.below hb12
  have HB12 : Hid (Below w.heap.size w w12) := below_step HB11.out hb12
  clear hb12 HC11 HV11 HB11 HD11 HT11
  go_wp2_with fail
  refine Calls.mono (chk_k HC12.out HV12.out (by decide) (by decide) k7) ?_
  rintro ev w13 ⟨rfl, hb13⟩
  have HC13 : Hid _ := HC12.out.below hb13
  have HV13 : Hid _ := HV12.out.below hb13
  have HD13 : Hid _ := HD12.out.below hb13
  have HT13 : Hid _ := HT12.out.below hb13
  have HB13 : Hid (Below w.heap.size w w13) := below_step HB12.out hb13
  clear hb13 HC12 HV12 HB12 HD12 HT12
  go_wp2_with fail
  refine Calls.mono (chk_k HC13.out HD13.out (by decide) (by decide) k8) ?_
  rintro ev w14 ⟨rfl, hb14⟩
  have HC14 : Hid _ := HC13.out.below hb14
  have HV14 : Hid _ := HV13.out.below hb14
  have HD14 : Hid _ := HD13.out.below hb14
  have HT14 : Hid _ := HT13.out.below hb14
  have HB14 : Hid (Below w.heap.size w w14) := below_step HB13.out hb14
  clear hb14 HC13 HV13 HB13 HD13 HT13
  go_wp2_with fail
  refine Calls.mono (chk_k (HC14.out.take (k := 2) (by decide)) HV14.out (by decide) (by decide) k9') ?_
  rintro ev w15 ⟨rfl, hb15⟩
  have HD15 : Hid _ := HD14.out.below hb15
  have HT15 : Hid _ := HT14.out.below hb15
  have HB15 : Hid (Below w.heap.size w w15) := below_step HB14.out hb15
  clear hb15 HC14 HV14 HB14 HD14 HT14
  go_wp2_with fail
  refine Calls.mono (bytes_sr HT15.out HD15.out (by decide) (by decide)) ?_
  rintro ev w16 ⟨rfl, hb16⟩
  have HB16 : Hid (Below w.heap.size w w16) := below_step HB15.out hb16
  rw [show decide (KD = KD) = true from by simp]
  clear hb16
  go_wp2_with fail
  refine bodyPost_ret (results_tmp rfl _ _ _) rfl ?_
  exact ⟨rfl, HB16.out⟩
end Go.Proofs.Ythdgmkjjpmigeaa
