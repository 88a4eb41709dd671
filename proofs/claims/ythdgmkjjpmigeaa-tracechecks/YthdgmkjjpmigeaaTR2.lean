/- Contracts (traces): steps, lists, CopyLists. -/
import Derived.Test.YthdgmkjjpmigeaaTR1
namespace Go.Proofs.Ythdgmkjjpmigeaa
open Go.RowKit
set_option linter.unusedSimpArgs false
set_option linter.unusedVariables false

set_option maxRecDepth 20000 in
set_option maxHeartbeats 6400000 in
theorem steps_any {w : World} {v : Value} {C : List (List Int)} (h : Lr w v C) (hl : C.length ≤ 100000) (hc : ∀ x ∈ C, x.length ≤ 1000000) :
    Calls Try.prog 11 #[v] w fun ev w' => ∃ v', ev = .returned v' ∧ Ga 57 w' w.heap.size v' C ∧ Below w.heap.size w w' := by
  obtain ⟨ti, ht0, hz0, hz1, hz2⟩ := info_any infoStep
  have HI : Hid _ := (⟨ht0, hz0, hz1, hz2⟩ : Try.prog.info? 57 = some ti ∧ ti.zero = _ ∧ ti.size = 1 ∧ ti.bytes = 24)
  clear ht0 hz0 hz1 hz2
  obtain ⟨a, c0, rfl⟩ := h.out
  obtain ⟨n, hn⟩ : ∃ n, n = C.length := ⟨_, rfl⟩
  rw [← hn] at hl h ⊢
  have HC : Hid (Lr w (.slice a n c0) C) := h
  have HCC : Hid _ := hc
  have HN : Hid _ := hn
  clear h hc hn
  go_enter Try.func11, Try.ntmps11
  go_wp2_with fail
  go_loopw [3, 4] (fun q i wr => ∃ k : Nat, k ≤ n ∧ i = .int .i64 (k : Int) ∧ Hid (Ga 57 wr w.heap.size q (C.take k) ∧ Below w.heap.size w wr)) (fun q i wr => n - (intOf i).toNat)
  case atStart => exact ⟨0, Nat.zero_le _, rfl, Ga.nil _ _ _, Below.refl _ _⟩
  case round =>
    obtain ⟨k, hk, rfl, hH⟩ := hrel
    obtain ⟨q, hqq⟩ : ∃ q, q = u3 := ⟨_, rfl⟩
    rw [← hqq] at hH ⊢
    clear hqq
    have hz0 := hH.out.2.size
    obtain ⟨aq, cq, hq⟩ := hH.out.1.sl
    by_cases hlt : k < n
    · have hltI : (k : Int) < (n : Int) := by omega
      obtain ⟨x, hx⟩ : ∃ x, C[k]? = some x := ⟨_, List.getElem?_eq_getElem (by rw [← HN.out]; exact hlt)⟩
      have hxl := HCC.out x (List.mem_of_getElem? hx)
      obtain ⟨r, o, u, rfl, hcu, hSr⟩ := (HC.out.below hH.out.2).at' hx
      have hro : r < wr.heap.size := World.block_lt_of_cell? _ _ hcu
      have HTK : Hid (C.take (k + 1) = C.take k ++ [x]) := by unfold Hid; rw [List.take_add_one, hx]; rfl
      obtain ⟨nq, hnq⟩ : ∃ n, n = (C.take k).length := ⟨_, rfl⟩
      have hnqk : nq ≤ 100000 := by rw [hnq, List.length_take]; omega
      rw [← hnq] at hq
      have HNQ : Hid _ := hnq
      have HCP : Hid _ := copyInts_sr hSr hxl
      obtain ⟨au, nu, cu, hue, -⟩ := hSr.sl
      subst hue
      clear hSr hx hnq
      go_wp2_with fail
      refine Calls.mono HCP.out ?_
      rintro ev w3 ⟨u3, rfl, hI3, hb3⟩
      obtain ⟨a3, n3, k3, hv3, -⟩ := own_sl hI3
      subst hv3
      have HB3 : Hid (Below w.heap.size w w3) := hH.out.2.trans (hb3.mono hH.out.2.size)
      have HG3 : Hid (Ga 57 w3 w.heap.size q (C.take k)) := hH.out.1.below hb3
      have HU3 : Hid (Sf w3 (own q) (.slice a3 n3 k3) x) := hI3.sf fun r hr => (hH.out.1.low r hr).2
      clear hI3 hb3 HCP
      subst hq
      obtain ⟨us, hus, husl, hu3⟩ := HG3.out.ex
      have HUX : Hid (∀ (i : Nat) u c, us[i]? = some u → (C.take k)[i]? = some c → Sf w3 (own (.slice aq nq cq)) u c) := hu3
      have HUS : Hid (w3.ownsRow w.heap.size 57 1 (.slice aq nq cq) nq us ∧ us.length = nq) := by
        have e1 : us.length = nq := by rw [husl, HNQ.out]
        exact ⟨by rw [← e1]; exact e1 ▸ hus, e1⟩
      clear hus husl hu3
      have hz3 := HB3.out.size
      go_wp2_with (at_builtin; refine wpList_append_own_at _ rfl _ _ 26 rfl w.heap.size 57 ti (.agg #[.slice none 0 0]) 1 24 underSteps HI.out.1 HI.out.2.1 HI.out.2.2.1 HI.out.2.2.2 rfl (by decide) (.slice aq nq cq) nq us rfl (row_kept HUS.out.1 (fun _ hq => heap_alloc_old _ _ hq)) ⟨w3.heap.size, 0, none⟩ 1 1 [.slice a3 n3 k3] rfl rfl (cell_one_new _ _ _) (by intro y hy; rw [List.mem_singleton.1 hy]; rfl) (by unfold maxLen; omega) (by omega) (by rw [size_alloc']; omega) ?_; intro v4 w4 hown hgrow hnil hat)
      have hG4 : Ga 57 w4 w.heap.size v4 (C.take k ++ [x]) := Ga.app (by rw [HUS.out.2, HNQ.out]) HUX.out HU3.out hgrow (by rw [HUS.out.2]; exact hown) hat
      have hb4 : Below w.heap.size w w4 := low_grown HB3.out (by omega) hgrow (fun q e => (HUS.out.1.lt q e).1)
      refine ⟨⟨k + 1, by omega, by go_num, by rw [HTK.out]; exact hG4, hb4⟩, by simp [intOf]; omega⟩
    · obtain rfl : k = n := by omega
      have hltI : ¬ (k : Int) < (k : Int) := by omega
      have hH2 := hH.out
      rw [HN.out, List.take_length] at hH2
      have HH2 : Hid _ := hH2
      clear hH2 hq
      go_wp2_with fail
      go_ret
      exact ⟨_, rfl, HH2.out.1, HH2.out.2⟩

set_option maxRecDepth 20000 in
set_option maxHeartbeats 6400000 in
theorem lists_any {w : World} {v : Value} {C : List (List Int)} (h : Lr w v C) (hl : C.length ≤ 100000) (hc : ∀ x ∈ C, x.length ≤ 1000000) :
    Calls Try.prog 19 #[v] w fun ev w' => ∃ v', ev = .returned v' ∧ Ga 51 w' w.heap.size v' C ∧ Below w.heap.size w w' := by
  obtain ⟨ti, ht0, hz0, hz1, hz2⟩ := info_any infoList
  have HI : Hid _ := (⟨ht0, hz0, hz1, hz2⟩ : Try.prog.info? 51 = some ti ∧ ti.zero = _ ∧ ti.size = 1 ∧ ti.bytes = 24)
  clear ht0 hz0 hz1 hz2
  obtain ⟨a, c0, rfl⟩ := h.out
  obtain ⟨n, hn⟩ : ∃ n, n = C.length := ⟨_, rfl⟩
  rw [← hn] at hl h ⊢
  have HC : Hid (Lr w (.slice a n c0) C) := h
  have HCC : Hid _ := hc
  have HN : Hid _ := hn
  clear h hc hn
  go_enter Try.func19, Try.ntmps19
  go_wp2_with fail
  go_loopw [3, 4] (fun q i wr => ∃ k : Nat, k ≤ n ∧ i = .int .i64 (k : Int) ∧ Hid (Ga 51 wr w.heap.size q (C.take k) ∧ Below w.heap.size w wr)) (fun q i wr => n - (intOf i).toNat)
  case atStart => exact ⟨0, Nat.zero_le _, rfl, Ga.nil _ _ _, Below.refl _ _⟩
  case round =>
    obtain ⟨k, hk, rfl, hH⟩ := hrel
    obtain ⟨q, hqq⟩ : ∃ q, q = u3 := ⟨_, rfl⟩
    rw [← hqq] at hH ⊢
    clear hqq
    have hz0 := hH.out.2.size
    obtain ⟨aq, cq, hq⟩ := hH.out.1.sl
    by_cases hlt : k < n
    · have hltI : (k : Int) < (n : Int) := by omega
      obtain ⟨x, hx⟩ : ∃ x, C[k]? = some x := ⟨_, List.getElem?_eq_getElem (by rw [← HN.out]; exact hlt)⟩
      have hxl := HCC.out x (List.mem_of_getElem? hx)
      obtain ⟨r, o, u, rfl, hcu, hSr⟩ := (HC.out.below hH.out.2).at' hx
      have hro : r < wr.heap.size := World.block_lt_of_cell? _ _ hcu
      have HTK : Hid (C.take (k + 1) = C.take k ++ [x]) := by unfold Hid; rw [List.take_add_one, hx]; rfl
      obtain ⟨nq, hnq⟩ : ∃ n, n = (C.take k).length := ⟨_, rfl⟩
      have hnqk : nq ≤ 100000 := by rw [hnq, List.length_take]; omega
      rw [← hnq] at hq
      have HNQ : Hid _ := hnq
      have hcu0 := hcu
      clear hnq
      have HB3 : Hid (Below w.heap.size w wr) := hH.out.2
      have HG3 : Hid (Ga 51 wr w.heap.size q (C.take k)) := hH.out.1
      obtain ⟨a3, n3, k3, hv3, -⟩ := hSr.sl
      subst hv3
      have HU3 : Hid (Sf wr (own q) (.slice a3 n3 k3) x) := Sf.below' (HC.out.old hx hH.out.2 hcu0) hH.out.2 hH.out.1.low
      clear hSr
      subst hq
      obtain ⟨us, hus, husl, hu3⟩ := HG3.out.ex
      have HUX : Hid (∀ (i : Nat) u c, us[i]? = some u → (C.take k)[i]? = some c → Sf wr (own (.slice aq nq cq)) u c) := hu3
      have HUS : Hid (wr.ownsRow w.heap.size 51 1 (.slice aq nq cq) nq us ∧ us.length = nq) := by
        have e1 : us.length = nq := by rw [husl, HNQ.out]
        exact ⟨by rw [← e1]; exact e1 ▸ hus, e1⟩
      clear hus husl hu3
      have hz3 := HB3.out.size
      go_wp2_with (at_builtin; refine wpList_append_own_at _ rfl _ _ 22 rfl w.heap.size 51 ti (.slice none 0 0) 1 24 underLists HI.out.1 HI.out.2.1 HI.out.2.2.1 HI.out.2.2.2 rfl (by decide) (.slice aq nq cq) nq us rfl (row_kept HUS.out.1 (fun _ hq => heap_alloc_old _ _ hq)) ⟨wr.heap.size, 0, none⟩ 1 1 [.slice a3 n3 k3] rfl rfl (cell_one_new _ _ _) (by intro y hy; rw [List.mem_singleton.1 hy]; rfl) (by unfold maxLen; omega) (by omega) (by rw [size_alloc']; omega) ?_; intro v4 w4 hown hgrow hnil hat)
      have hG4 : Ga 51 w4 w.heap.size v4 (C.take k ++ [x]) := Ga.app (by rw [HUS.out.2, HNQ.out]) HUX.out HU3.out hgrow (by rw [HUS.out.2]; exact hown) hat
      have hb4 : Below w.heap.size w w4 := low_grown HB3.out (by omega) hgrow (fun q e => (HUS.out.1.lt q e).1)
      refine ⟨⟨k + 1, by omega, by go_num, by rw [HTK.out]; exact hG4, hb4⟩, by simp [intOf]; omega⟩
    · obtain rfl : k = n := by omega
      have hltI : ¬ (k : Int) < (k : Int) := by omega
      have hH2 := hH.out
      rw [HN.out, List.take_length] at hH2
      have HH2 : Hid _ := hH2
      clear hH2 hq
      go_wp2_with fail
      go_ret
      exact ⟨_, rfl, HH2.out.1, HH2.out.2⟩

set_option maxRecDepth 20000 in
set_option maxHeartbeats 6400000 in
theorem copyLists_any {w : World} {v : Value} {C : List (List Int)} (h : Lr w v C) (hl : C.length ≤ 100000) (hc : ∀ x ∈ C, x.length ≤ 1000000) :
    Calls Try.prog 20 #[v] w fun ev w' => ∃ v', ev = .returned v' ∧ Ga 51 w' w.heap.size v' C ∧ Below w.heap.size w w' := by
  obtain ⟨ti, ht0, hz0, hz1, hz2⟩ := info_any infoList
  have HI : Hid _ := (⟨ht0, hz0, hz1, hz2⟩ : Try.prog.info? 51 = some ti ∧ ti.zero = _ ∧ ti.size = 1 ∧ ti.bytes = 24)
  clear ht0 hz0 hz1 hz2
  obtain ⟨a, c0, rfl⟩ := h.out
  obtain ⟨n, hn⟩ : ∃ n, n = C.length := ⟨_, rfl⟩
  rw [← hn] at hl h ⊢
  have HC : Hid (Lr w (.slice a n c0) C) := h
  have HCC : Hid _ := hc
  have HN : Hid _ := hn
  clear h hc hn
  go_enter Try.func20, Try.ntmps20
  go_wp2_with fail
  go_loopw [3, 4] (fun q i wr => ∃ k : Nat, k ≤ n ∧ i = .int .i64 (k : Int) ∧ Hid (Ga 51 wr w.heap.size q (C.take k) ∧ Below w.heap.size w wr)) (fun q i wr => n - (intOf i).toNat)
  case atStart => exact ⟨0, Nat.zero_le _, rfl, Ga.nil _ _ _, Below.refl _ _⟩
  case round =>
    obtain ⟨k, hk, rfl, hH⟩ := hrel
    obtain ⟨q, hqq⟩ : ∃ q, q = u3 := ⟨_, rfl⟩
    rw [← hqq] at hH ⊢
    clear hqq
    have hz0 := hH.out.2.size
    obtain ⟨aq, cq, hq⟩ := hH.out.1.sl
    by_cases hlt : k < n
    · have hltI : (k : Int) < (n : Int) := by omega
      obtain ⟨x, hx⟩ : ∃ x, C[k]? = some x := ⟨_, List.getElem?_eq_getElem (by rw [← HN.out]; exact hlt)⟩
      have hxl := HCC.out x (List.mem_of_getElem? hx)
      obtain ⟨r, o, u, rfl, hcu, hSr⟩ := (HC.out.below hH.out.2).at' hx
      have hro : r < wr.heap.size := World.block_lt_of_cell? _ _ hcu
      have HTK : Hid (C.take (k + 1) = C.take k ++ [x]) := by unfold Hid; rw [List.take_add_one, hx]; rfl
      obtain ⟨nq, hnq⟩ : ∃ n, n = (C.take k).length := ⟨_, rfl⟩
      have hnqk : nq ≤ 100000 := by rw [hnq, List.length_take]; omega
      rw [← hnq] at hq
      have HNQ : Hid _ := hnq
      have HCP : Hid _ := copyInts_sr hSr hxl
      obtain ⟨au, nu, cu, hue, -⟩ := hSr.sl
      subst hue
      clear hSr hx hnq
      go_wp2_with fail
      refine Calls.mono HCP.out ?_
      rintro ev w3 ⟨u3, rfl, hI3, hb3⟩
      obtain ⟨a3, n3, k3, hv3, -⟩ := own_sl hI3
      subst hv3
      have HB3 : Hid (Below w.heap.size w w3) := hH.out.2.trans (hb3.mono hH.out.2.size)
      have HG3 : Hid (Ga 51 w3 w.heap.size q (C.take k)) := hH.out.1.below hb3
      have HU3 : Hid (Sf w3 (own q) (.slice a3 n3 k3) x) := hI3.sf fun r hr => (hH.out.1.low r hr).2
      clear hI3 hb3 HCP
      subst hq
      obtain ⟨us, hus, husl, hu3⟩ := HG3.out.ex
      have HUX : Hid (∀ (i : Nat) u c, us[i]? = some u → (C.take k)[i]? = some c → Sf w3 (own (.slice aq nq cq)) u c) := hu3
      have HUS : Hid (w3.ownsRow w.heap.size 51 1 (.slice aq nq cq) nq us ∧ us.length = nq) := by
        have e1 : us.length = nq := by rw [husl, HNQ.out]
        exact ⟨by rw [← e1]; exact e1 ▸ hus, e1⟩
      clear hus husl hu3
      have hz3 := HB3.out.size
      go_wp2_with (at_builtin; refine wpList_append_own_at _ rfl _ _ 22 rfl w.heap.size 51 ti (.slice none 0 0) 1 24 underLists HI.out.1 HI.out.2.1 HI.out.2.2.1 HI.out.2.2.2 rfl (by decide) (.slice aq nq cq) nq us rfl (row_kept HUS.out.1 (fun _ hq => heap_alloc_old _ _ hq)) ⟨w3.heap.size, 0, none⟩ 1 1 [.slice a3 n3 k3] rfl rfl (cell_one_new _ _ _) (by intro y hy; rw [List.mem_singleton.1 hy]; rfl) (by unfold maxLen; omega) (by omega) (by rw [size_alloc']; omega) ?_; intro v4 w4 hown hgrow hnil hat)
      have hG4 : Ga 51 w4 w.heap.size v4 (C.take k ++ [x]) := Ga.app (by rw [HUS.out.2, HNQ.out]) HUX.out HU3.out hgrow (by rw [HUS.out.2]; exact hown) hat
      have hb4 : Below w.heap.size w w4 := low_grown HB3.out (by omega) hgrow (fun q e => (HUS.out.1.lt q e).1)
      refine ⟨⟨k + 1, by omega, by go_num, by rw [HTK.out]; exact hG4, hb4⟩, by simp [intOf]; omega⟩
    · obtain rfl : k = n := by omega
      have hltI : ¬ (k : Int) < (k : Int) := by omega
      have hH2 := hH.out
      rw [HN.out, List.take_length] at hH2
      have HH2 : Hid _ := hH2
      clear hH2 hq
      go_wp2_with fail
      go_ret
      exact ⟨_, rfl, HH2.out.1, HH2.out.2⟩
end Go.Proofs.Ythdgmkjjpmigeaa
