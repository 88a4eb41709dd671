/- TraceShifts: the walk. -/
import Derived.Test.YthdgmkjjpmigeaaTS0
namespace Go.Proofs.Ythdgmkjjpmigeaa
open Go.RowKit
set_option linter.unusedSimpArgs false
set_option linter.unusedVariables false

abbrev Bl (L : List (List Int)) : Prop := L.length ≤ 70368744177664 ∧ ∀ c ∈ L, c.length ≤ 70368744177664
theorem lgt.sum {C : List (List Int)} (h : lgt C) : C.length + (C.map List.length).sum ≤ 1000 := by have := h.1; omega
/-- What was written has only numbers. -/
theorem enc_in {C : List (List Int)} (h : (encF C).2 = 0) : ∀ s ∈ C, ∀ x ∈ s, 0 ≤ x ∧ x ≤ 2147483647 := by
  have h0 : C.any (fun s => s.any noN) = false := by
    unfold encF at h
    split at h
    · cases h
    · next e => simpa using e
  intro s hs x hx
  have h1 := List.any_eq_false.1 h0 s hs
  rw [Bool.not_eq_true] at h1
  have h2 := List.any_eq_false.1 h1 x hx
  rw [Bool.not_eq_true] at h2
  exact (noN_iff x).1 h2
theorem enc_len {C : List (List Int)} (hs : C.length + (C.map List.length).sum ≤ 1000) : (encF C).1.length ≤ 6000 := by
  unfold encF
  split
  · simp
  · simp only [List.length_append, be4_len, flatb_len]
    have : hd.length = 4 := rfl
    omega
theorem map_sums (f : Int → Int) (C : List (List Int)) : (C.map fun F => F.map f).length + ((C.map fun F => F.map f).map List.length).sum = C.length + (C.map List.length).sum := by
  simp [List.map_map, Function.comp_def]
def shF (g m : Nat) (F : List Int) (j : Nat) : List Int := (F.take j).map (sh g m)
def shG (g m : Nat) (L : List (List Int)) (k : Nat) : List (List Int) := (L.take k).map fun F => F.map (sh g m)
theorem shF_end (g m : Nat) (F : List Int) : shF g m F F.length = F.map (sh g m) := by unfold shF; rw [List.take_length]
theorem shG_end (g m : Nat) (L : List (List Int)) : shG g m L L.length = L.map fun F => F.map (sh g m) := by unfold shG; rw [List.take_length]
theorem shF_len (g m : Nat) (F : List Int) (j : Nat) : (shF g m F j).length ≤ j := by unfold shF; rw [List.length_map, List.length_take]; omega
theorem shG_len (g m : Nat) (L : List (List Int)) (j : Nat) : (shG g m L j).length ≤ j := by unfold shG; rw [List.length_map, List.length_take]; omega
theorem shF_step {g m : Nat} {F : List Int} {j : Nat} {x : Int} (h : F[j]? = some x) : shF g m F (j + 1) = shF g m F j ++ [sh g m x] := by unfold shF; rw [List.take_add_one, h]; simp
theorem shG_step {g m : Nat} {L : List (List Int)} {j : Nat} {F : List Int} (h : L[j]? = some F) : shG g m L (j + 1) = shG g m L j ++ [F.map (sh g m)] := by unfold shG; rw [List.take_add_one, h]; simp
set_option maxRecDepth 20000 in
set_option maxHeartbeats 25600000 in
theorem shifts_law (W : World) {u0 u1 u2 : Value} {G M L : List (List Int)} (h0 : Lr W u0 G) (_e0 : ∀ c ∈ G, ∀ y ∈ c, w64 y) (b0 : Bl G) (h1 : Lr W u1 M) (_e1 : ∀ c ∈ M, ∀ y ∈ c, w64 y) (b1 : Bl M) (h2 : Lr W u2 L) (_e2 : ∀ c ∈ L, ∀ y ∈ c, w64 y) (b2 : Bl L) :
    Calls Try.prog 8 #[u0, u1, u2] W fun ev w' => ev = .returned (.bool true) ∧ Below W.heap.size W w' := by
  obtain ⟨ti, ht0, hz0, hz1, hz2⟩ := info_any infoList
  have HI : Hid _ := (⟨ht0, hz0, hz1, hz2⟩ : Try.prog.info? 51 = some ti ∧ ti.zero = _ ∧ ti.size = 1 ∧ ti.bytes = 24)
  obtain ⟨tj, hj0, hj1, hj2, hj3⟩ := info_any infoInt
  have HJ : Hid _ := (⟨hj0, hj1, hj2, hj3⟩ : Try.prog.info? 3 = some tj ∧ tj.zero = _ ∧ tj.size = 1 ∧ tj.bytes = 8)
  clear ht0 hz0 hz1 hz2 hj0 hj1 hj2 hj3
  obtain ⟨a0, c0, rfl⟩ := h0.out
  obtain ⟨a1, c1, rfl⟩ := h1.out
  obtain ⟨a2, c2, rfl⟩ := h2.out
  obtain ⟨g, hg⟩ : ∃ n, n = G.length := ⟨_, rfl⟩
  obtain ⟨m, hm⟩ : ∃ n, n = M.length := ⟨_, rfl⟩
  obtain ⟨n, hn⟩ : ∃ n, n = L.length := ⟨_, rfl⟩
  rw [← hg] at h0 ⊢
  rw [← hm] at h1 ⊢
  rw [← hn] at h2 ⊢
  have HG : Hid (Lr W (.slice a0 g c0) G) := h0
  have HM : Hid (Lr W (.slice a1 m c1) M) := h1
  have HL : Hid (Lr W (.slice a2 n c2) L) := h2
  have HNG : Hid (g = G.length ∧ m = M.length ∧ n = L.length) := ⟨hg, hm, hn⟩
  have HBB : Hid (Bl G ∧ Bl M ∧ Bl L) := ⟨b0, b1, b2⟩
  clear h0 h1 h2 hg hm hn b0 b1 b2 _e0 _e1 _e2
  go_enter Try.func8, Try.ntmps8
  go_wp2_with fail
  refine Calls.mono (known_any W) ?_
  rintro ev w1 ⟨rfl, hb1⟩
  have HB1 : Hid (Below W.heap.size W w1) := hb1
  clear hb1
  go_wp2_with fail
  refine Calls.mono (light_any (HG.out.below HB1.out) (HL.out.below HB1.out) HBB.out.1.1 HBB.out.1.2 HBB.out.2.2.1 HBB.out.2.2.2) ?_
  rintro ev w2 ⟨bo, rfl, hbo, hw2⟩
  subst hw2
  cases bo with
  | false =>
    clear hbo
    go_wp2_with fail
    go_ret
    exact ⟨rfl, HB1.out⟩
  | true =>
  have HLG : Hid (lgt G ∧ lgt L) := hbo rfl
  clear hbo
  go_wp2_with fail
  refine Calls.mono (light_any (HM.out.below HB1.out) (Lr.nil w2) HBB.out.2.1.1 HBB.out.2.1.2 (by decide) (fun x hx => by simp at hx)) ?_
  rintro ev w3 ⟨bo, rfl, hbo, hw3⟩
  subst hw3
  cases bo with
  | false =>
    clear hbo
    go_wp2_with fail
    go_ret
    exact ⟨rfl, HB1.out⟩
  | true =>
  have HLM : Hid (lgt M) := (hbo rfl).1
  clear hbo
  go_wp2_with fail
  refine Calls.mono (steps_any (HL.out.below HB1.out) (by have := HLG.out.2.2; omega) (fun x hx => by have := HLG.out.2.len x hx; omega)) ?_
  rintro ev w4 ⟨v4, rfl, hG4, hb4⟩
  have HS4 : Hid (Lr w4 v4 L) := hG4.lr
  have HB4 : Hid (Below W.heap.size W w4) := below_step HB1.out hb4
  clear hG4 hb4
  go_wp2_with fail
  refine Calls.mono (encode_any HS4.out (by have := HLG.out.2.sum; omega)) ?_
  rintro ev w5 ⟨v5, rfl, hV5, hb5⟩
  have HV5 : Hid (Br w5 v5 (encF L).1) := hV5
  have HB5 : Hid (Below W.heap.size W w5) := below_step HB4.out hb5
  obtain ⟨e, he⟩ : ∃ e, e = (encF L).2 := ⟨_, rfl⟩
  rw [← he]
  have HE : Hid (e = (encF L).2) := he
  clear hV5 hb5 HB4 HS4 he
  by_cases he : e = 0
  rotate_left
  · have heb : (e == 0) = false := by simp [he]
    have hec : (e != 0) = true := by simp [he]
    go_wp2_with fail
    go_ret
    exact ⟨rfl, HB5.out⟩
  subst he
  go_wp2_with fail
  refine Calls.mono (check_any (HG.out.below HB5.out) HV5.out (by have := HLG.out.1.sum; omega) (enc_len HLG.out.2.sum)) ?_
  rintro ev w6 ⟨rfl, hb6⟩
  have HB6 : Hid (Below W.heap.size W w6) := below_step HB5.out hb6
  obtain ⟨was, hwas⟩ : ∃ e, e = chkF G (encF L).1 := ⟨_, rfl⟩
  rw [← hwas]
  have HWAS : Hid (was = endF G L) := by unfold Hid; rw [hwas]; exact chk_enc (by have := HLG.out.2.sum; omega) HE.out.symm
  have HIN : Hid (∀ s ∈ L, ∀ x ∈ s, 0 ≤ x ∧ x ≤ 2147483647) := enc_in HE.out.symm
  clear hb6 hwas HV5 HB5
  have hgb : g ≤ 200 := by have := HLG.out.1.2; rw [HNG.out.1]; exact this
  have hmb : m ≤ 200 := by have := HLM.out.2; rw [HNG.out.2.1]; exact this
  have hnb : n ≤ 200 := by have := HLG.out.2.2; rw [HNG.out.2.2]; exact this
  go_wp2_with fail
  go_loopw [10, 11] (fun q i wr => ∃ k : Nat, k ≤ n ∧ i = .int .i64 (k : Int) ∧ Hid (Ga 51 wr w6.heap.size q (shG g m L k) ∧ Below w6.heap.size w6 wr)) (fun q i wr => n - (intOf i).toNat)
  case atStart => exact ⟨0, Nat.zero_le _, rfl, Ga.nil _ _ _, Below.refl _ _⟩
  case round =>
    obtain ⟨k, hk, rfl, hH⟩ := hrel
    obtain ⟨q, hqq⟩ : ∃ q, q = u10 := ⟨_, rfl⟩
    rw [← hqq] at hH ⊢
    clear hqq
    have hz0 := hH.out.2.size
    obtain ⟨aq, cq, hq⟩ := hH.out.1.sl
    by_cases hlt : k < n
    · have hltI : (k : Int) < (n : Int) := by omega
      obtain ⟨F, hx⟩ : ∃ x, L[k]? = some x := ⟨_, List.getElem?_eq_getElem (by rw [← HNG.out.2.2]; exact hlt)⟩
      have hxl := HLG.out.2.len F (List.mem_of_getElem? hx)
      have HFI : Hid (∀ x ∈ F, 0 ≤ x ∧ x ≤ 2147483647) := HIN.out F (List.mem_of_getElem? hx)
      obtain ⟨r, o, u, rfl, hcu, hSr⟩ := ((HL.out.below HB6.out).below hH.out.2).at' hx
      have hro : r < wr.heap.size := World.block_lt_of_cell? _ _ hcu
      have HTK : Hid (shG g m L (k + 1) = (shG g m L k) ++ [F.map (sh g m)]) := shG_step hx
      obtain ⟨nq, hnq⟩ : ∃ n, n = (shG g m L k).length := ⟨_, rfl⟩
      have hnqk : nq ≤ 100000 := by have := shG_len g m L k; omega
      rw [← hnq] at hq
      have HQ0 : Hid (q = .slice aq nq cq) := hq
      clear hq
      have HNQ : Hid _ := hnq
      obtain ⟨au, nu, cu, hue, hnu⟩ := hSr.sl
      subst hue
      have HSR : Hid (Sr wr (.slice au nu cu) F) := hSr
      have HNU : Hid (nu = F.length) := hnu
      have hnub : nu ≤ 1000 := by rw [HNU.out]; exact hxl
      obtain ⟨w7, hw7⟩ : ∃ w7, w7 = wr := ⟨_, rfl⟩
      subst hw7
      clear hSr hx hnq hnu hxl
      go_wp2_with fail
      go_loopw [12, 13] (fun s i wr => ∃ j : Nat, j ≤ nu ∧ i = .int .i64 (j : Int) ∧ Hid (Is' wr w7.heap.size s (shF g m F j) ∧ Below w7.heap.size w7 wr)) (fun s i wr => nu - (intOf i).toNat)
      case atStart => exact ⟨0, Nat.zero_le _, rfl, World.ownsRow_nil _ _ _ _, Below.refl _ _⟩
      case round =>
        obtain ⟨j, hj, rfl, hJ⟩ := hrel
        obtain ⟨s, hss⟩ : ∃ s, s = u12 := ⟨_, rfl⟩
        rw [← hss] at hJ ⊢
        clear hss
        have hz1 := hJ.out.2.size
        have hcu1 : wr.cell? ⟨r, o + k, none⟩ = some (.slice au nu cu) := keep_cell hJ.out.2 hcu
        have hro1 : r < wr.heap.size := by omega
        by_cases hlt2 : j < nu
        · have hltJ : (j : Int) < (nu : Int) := by omega
          obtain ⟨x, hx⟩ : ∃ x, F[j]? = some x := ⟨_, List.getElem?_eq_getElem (by rw [← HNU.out]; exact hlt2)⟩
          have hxb := HFI.out x (List.mem_of_getElem? hx)
          obtain ⟨r', o', rfl, hcx⟩ := HSR.out.at' hJ.out.2 (k := j) (by rw [← HNU.out]; exact hlt2)
          rw [getD_at hx] at hcx
          have hro2 : r' < wr.heap.size := World.block_lt_of_cell? _ _ hcx
          obtain ⟨y, hy⟩ : ∃ y, y = sh g m x := ⟨_, rfl⟩
          have HTJ : Hid (shF g m F (j + 1) = shF g m F j ++ [y]) := by unfold Hid; rw [hy]; exact shF_step hx
          obtain ⟨ns, hns⟩ : ∃ n, n = (shF g m F j).length := ⟨_, rfl⟩
          have hnsk : ns ≤ 1000 := by have := shF_len g m F j; omega
          have HNS : Hid (wr.ownsRow w7.heap.size 3 1 s ns ((shF g m F j).map (Value.int .i64))) := by unfold Hid; rw [hns]; exact hJ.out.1
          have HNSL : Hid (ns = (shF g m F j).length) := hns
          clear hx hns
          by_cases hgx : (g : Int) ≤ x
          · have hgd : decide ((g : Int) ≤ x) = true := decide_eq_true hgx
            have HYX : Hid (y = x + (m : Int)) := by unfold Hid; rw [hy]; unfold sh; rw [if_pos hgx]
            clear hy
            go_wp2_with (at_builtin; refine wpList_append_own_at _ rfl _ _ 51 rfl w7.heap.size 3 tj _ 1 8 underInts HJ.out.1 HJ.out.2.1 HJ.out.2.2.1 HJ.out.2.2.2 rfl (by decide) _ ns _ rfl (row_kept HNS.out (fun _ hq => heap_alloc_old _ _ hq)) ⟨wr.heap.size, 0, none⟩ 1 1 [_] rfl rfl (cell_one_new _ _ _) (fun u hu => by rw [List.mem_singleton.1 hu]; rfl) (by unfold maxLen; omega) (by omega) (by simp; omega) ?_; intro v1 w3 hown hgrow hnil hat)
            have hI3 : Is' w3 w7.heap.size v1 (shF g m F j ++ [y]) := by unfold Is'; rw [List.length_append, List.map_append, ← HNSL.out, HYX.out]; exact hown
            have hb3 : Below w7.heap.size w7 w3 := low_grown hJ.out.2 (by omega) hgrow (fun q e => (World.ownsRow.lt HNS.out q e).1)
            exact ⟨⟨j + 1, by omega, by go_num, by rw [HTJ.out]; exact hI3, hb3⟩, by simp [intOf]; omega⟩
          · have hgd : decide ((g : Int) ≤ x) = false := decide_eq_false hgx
            obtain rfl : y = x := by rw [hy]; unfold sh; rw [if_neg hgx]
            clear hy
            go_wp2_with (at_builtin; refine wpList_append_own_at _ rfl _ _ 51 rfl w7.heap.size 3 tj _ 1 8 underInts HJ.out.1 HJ.out.2.1 HJ.out.2.2.1 HJ.out.2.2.2 rfl (by decide) _ ns _ rfl (row_kept HNS.out (fun _ hq => heap_alloc_old _ _ hq)) ⟨wr.heap.size, 0, none⟩ 1 1 [_] rfl rfl (cell_one_new _ _ _) (fun u hu => by rw [List.mem_singleton.1 hu]; rfl) (by unfold maxLen; omega) (by omega) (by simp; omega) ?_; intro v1 w3 hown hgrow hnil hat)
            have hI3 : Is' w3 w7.heap.size v1 (shF g m F j ++ [y]) := by unfold Is'; rw [List.length_append, List.map_append, ← HNSL.out]; exact hown
            have hb3 : Below w7.heap.size w7 w3 := low_grown hJ.out.2 (by omega) hgrow (fun q e => (World.ownsRow.lt HNS.out q e).1)
            exact ⟨⟨j + 1, by omega, by go_num, by rw [HTJ.out]; exact hI3, hb3⟩, by simp [intOf]; omega⟩
        · obtain rfl : j = nu := by omega
          have hltJ : ¬ (j : Int) < (j : Int) := by omega
          have hJ2 := hJ.out
          rw [HNU.out, shF_end] at hJ2
          have HU3 : Hid (Sf wr (own q) s (F.map (sh g m))) := hJ2.1.sf fun r hr => (hH.out.1.low r hr).2
          have HG3 : Hid (Ga 51 wr w6.heap.size q (shG g m L k)) := hH.out.1.below hJ.out.2
          have HB3 : Hid (Below w6.heap.size w6 wr) := below_step hH.out.2 hJ.out.2
          obtain ⟨a3, n3, k3, hv3, -⟩ := own_sl hJ2.1
          subst hv3
          have hq : q = .slice aq nq cq := HQ0.out
          clear HQ0
          subst hq
          obtain ⟨us, hus, husl, hu3⟩ := HG3.out.ex
          have HUX : Hid (∀ (i : Nat) u c, us[i]? = some u → (shG g m L k)[i]? = some c → Sf wr (own (.slice aq nq cq)) u c) := hu3
          have HUS : Hid (wr.ownsRow w6.heap.size 51 1 (.slice aq nq cq) nq us ∧ us.length = nq) := by
            have e1 : us.length = nq := by rw [husl, HNQ.out]
            exact ⟨by rw [← e1]; exact e1 ▸ hus, e1⟩
          have hz3 := HB3.out.size
          clear hus husl hu3 hJ2 hJ
          go_wp2_with (at_builtin; refine wpList_append_own_at _ rfl _ _ 22 rfl w6.heap.size 51 ti (.slice none 0 0) 1 24 underLists HI.out.1 HI.out.2.1 HI.out.2.2.1 HI.out.2.2.2 rfl (by decide) (.slice aq nq cq) nq us rfl (row_kept HUS.out.1 (fun _ hq => heap_alloc_old _ _ hq)) ⟨wr.heap.size, 0, none⟩ 1 1 [.slice a3 n3 k3] rfl rfl (cell_one_new _ _ _) (by intro y hy; rw [List.mem_singleton.1 hy]; rfl) (by unfold maxLen; omega) (by omega) (by rw [size_alloc']; omega) ?_; intro v4 w4 hown hgrow hnil hat)
          have hG4 : Ga 51 w4 w6.heap.size v4 (shG g m L k ++ [F.map (sh g m)]) := Ga.app (by rw [HUS.out.2, HNQ.out]) HUX.out HU3.out hgrow (by rw [HUS.out.2]; exact hown) hat
          have hb4 : Below w6.heap.size w6 w4 := low_grown HB3.out (by omega) hgrow (fun q e => (HUS.out.1.lt q e).1)
          refine ⟨⟨k + 1, by omega, by go_num, by rw [HTK.out]; exact hG4, hb4⟩, by simp [intOf]; omega⟩
    · obtain rfl : k = n := by omega
      have hltI : ¬ (k : Int) < (k : Int) := by omega
      have hH2 := hH.out
      rw [HNG.out.2.2, shG_end] at hH2
      obtain ⟨MV, hMV⟩ : ∃ MV, MV = L.map fun F => F.map (sh g m) := ⟨_, rfl⟩
      rw [← hMV] at hH2
      have HMV : Hid (MV = L.map fun F => F.map (sh g m)) := hMV
      have HQ : Hid (Lr wr q MV) := hH2.1.lr
      have HB7 : Hid (Below W.heap.size W wr) := below_step HB6.out hH2.2
      have HMS : Hid (MV.length + (MV.map List.length).sum ≤ 1000) := by unfold Hid; rw [hMV, map_sums]; exact HLG.out.2.sum
      have HEN : Hid (endF (G ++ M) MV = was) := by unfold Hid; rw [hMV, HNG.out.1, HNG.out.2.1, endF_sh, HWAS.out]
      clear hH2 hH hMV hq
      go_wp2_with fail
      refine Calls.mono (steps_any HQ.out (by have := HMS.out; omega) (fun x hx => by have := len_sum hx; have := HMS.out; omega)) ?_
      rintro ev w8 ⟨v8, rfl, hG8, hb8⟩
      have HS8 : Hid (Lr w8 v8 MV) := hG8.lr
      have HB8 : Hid (Below W.heap.size W w8) := below_step HB7.out hb8
      clear hG8 hb8
      go_wp2_with fail
      refine Calls.mono (encode_any HS8.out (by have := HMS.out; omega)) ?_
      rintro ev w9 ⟨v9, rfl, hV9, hb9⟩
      have HV9 : Hid (Br w9 v9 (encF MV).1) := hV9
      have HB9 : Hid (Below W.heap.size W w9) := below_step HB8.out hb9
      obtain ⟨f, hf⟩ : ∃ e, e = (encF MV).2 := ⟨_, rfl⟩
      rw [← hf]
      have HF : Hid (f = (encF MV).2) := hf
      clear hV9 hb9 HB8 HS8 hf
      go_wp2_with fail
      refine Calls.mono (copyLists_any (HG.out.below HB9.out) (by rw [← HNG.out.1]; omega) (fun x hx => by have := HLG.out.1.len x hx; omega)) ?_
      rintro ev w10 ⟨v10, rfl, hG10, hb10⟩
      have HG10 : Hid (Ga 51 w10 w9.heap.size v10 G) := hG10
      have HBX : Hid (Below w9.heap.size w9 w10) := hb10
      clear hG10 hb10
      by_cases hf : f = 0
      · subst hf
        go_wp2_with (at_builtin; refine wpList_appL rfl _ _ rfl HBX.out _ _ rfl rfl HG10.out (HM.out.below HB9.out) (by rw [← HNG.out.1, ← HNG.out.2.1]; omega) ?_; intro v11 w11 hA11 hb11)
        have HV11 : Hid (Br w11 v9 (encF MV).1) := HV9.out.below hb11
        have HB11 : Hid (Below W.heap.size W w11) := below_step HB9.out hb11
        have HCK : Hid _ := chk_k hA11 HV11.out (by rw [List.length_append, List.map_append, List.sum_append]; have := HLG.out.1.sum; have := HLM.out.sum; omega) (enc_len HMS.out) (e := was) (by rw [chk_enc (by have := HMS.out; omega) HF.out.symm]; exact HEN.out)
        refine Calls.mono HCK.out ?_
        rintro ev w12 ⟨rfl, hb12⟩
        have HB12 : Hid (Below W.heap.size W w12) := below_step HB11.out hb12
        have hww : (was == was) = true := by simp
        clear hb12 hA11 hb11
        go_wp2_with fail
        refine bodyPost_ret (results_tmp rfl _ _ _) rfl ?_
        exact ⟨rfl, HB12.out⟩
      · have hfb : (f == 0) = false := by simp [hf]
        have hfc : (f != 0) = true := by simp [hf]
        go_wp2_with (at_builtin; refine wpList_appL rfl _ _ rfl HBX.out _ _ rfl rfl HG10.out (HM.out.below HB9.out) (by rw [← HNG.out.1, ← HNG.out.2.1]; omega) ?_; intro v11 w11 hA11 hb11)
        refine bodyPost_ret (results_tmp rfl _ _ _) rfl ?_
        exact ⟨rfl, below_step HB9.out hb11⟩
end Go.Proofs.Ythdgmkjjpmigeaa
