/- Contracts (the laws): StoreOrder. -/
import Derived.Test.YtcbkgnalfdoemaaST41
namespace Go.Proofs.Ytcbkgnalfdoemaa
open Go.RowKit
set_option linter.unusedSimpArgs false
set_option linter.unusedVariables false

/-- Another store isn't touched. -/
theorem So.apart {w w' : World} {F F' G : Nat → Prop} {s mo : Nat} {C : List (List Int)} (h : So w G s mo C) (hc : Ch w w' F F') (hd : ∀ k, G k → ¬ F k) : So w' G s mo C :=
  h.kept hc.size fun k hk hg => hc.block k hk (hd k hg)
theorem drop_rev {α : Type} {l : List α} {k : Nat} {x : α} (h : l[k]? = some x) : (l.drop k).reverse = (l.drop (k + 1)).reverse ++ [x] := by
  have hk := (List.getElem?_eq_some_iff.1 h).1
  rw [List.drop_eq_getElem_cons hk, List.reverse_cons]
  rw [List.getElem?_eq_getElem hk] at h
  rw [Option.some.inj h]
set_option maxRecDepth 20000 in
set_option maxHeartbeats 3200000 in
theorem order_any (w : World) {vl vt : Value} {L : List (List Int)} {lits : List Int} (hL : Lr w vl L) (_ : ∀ c ∈ L, ∀ y ∈ c, w64 y) (hLB : L.length ≤ 70368744177664 ∧ ∀ c ∈ L, c.length ≤ 70368744177664) (ht : Sr w vt lits) (_ : ∀ y ∈ lits, w64 y) (_ : lits.length ≤ 70368744177664) :
    Calls Try.prog 5 #[vl, vt] w fun ev w' => ev = .returned (.bool true) ∧ Below w.heap.size w w' := by
  obtain ⟨ti, ht0, hz0, hz1, hz2⟩ := info_any infoList
  have HI : Hid _ := (⟨ht0, hz0, hz1, hz2⟩ : Try.prog.info? 27 = some ti ∧ ti.zero = _ ∧ ti.size = 1 ∧ ti.bytes = 24)
  clear ht0 hz0 hz1 hz2
  have HKN : Hid _ := known_any w
  have HL : Hid (Lr w vl L) := hL
  have HT : Hid (Sr w vt lits) := ht
  have HLB : Hid _ := hLB
  obtain ⟨a1, c1, e1⟩ := hL.out
  obtain ⟨a2, c2, e2⟩ := ht.out
  obtain ⟨n1, hn1⟩ : ∃ n, n = L.length := ⟨_, rfl⟩
  obtain ⟨n2, hn2⟩ : ∃ n, n = lits.length := ⟨_, rfl⟩
  rw [← hn1] at e1
  rw [← hn2] at e2
  have HN1 : Hid _ := hn1
  have HN2 : Hid _ := hn2
  subst e1 e2
  obtain ⟨us, husl, hus⟩ := hL.vals
  have HUS : Hid (us.length = L.length ∧ ∀ (i : Nat) u x, us[i]? = some u → L[i]? = some x → Sr w u x ∧ ∃ r o, a1 = some ⟨r, o, none⟩ ∧ r < w.heap.size ∧ w.cell? ⟨r, o + i, none⟩ = some u) := ⟨husl, hus⟩
  clear hL ht hLB hn1 hn2 husl hus
  go_enter Try.func5, Try.ntmps5
  go_wp2_with fail
  refine Calls.mono HKN.out ?_
  rintro ev w1 ⟨rfl, hb1⟩
  have HB1 : Hid _ := hb1
  have HSZ : Hid _ := size_any (HL.out.below hb1) HLB.out.1 HLB.out.2 (most := 800) (by decide) (by decide)
  clear hb1 HKN
  go_wp2_with fail
  refine Calls.mono HSZ.out ?_
  rintro ev w2 ⟨⟨z, rfl, hz⟩, rfl⟩
  have HZ : Hid _ := hz
  clear hz HSZ
  by_cases hz : 800 < z
  · go_wp2_with fail
    refine bodyPost_ret (results_tmp rfl _ _ _) rfl ?_
    exact ⟨rfl, HB1.out⟩
  by_cases h1 : (150 : Int) < (n1 : Int)
  · go_wp2_with fail
    refine bodyPost_ret (results_tmp rfl _ _ _) rfl ?_
    exact ⟨rfl, HB1.out⟩
  by_cases h2 : (60 : Int) < (n2 : Int)
  · go_wp2_with fail
    refine bodyPost_ret (results_tmp rfl _ _ _) rfl ?_
    exact ⟨rfl, HB1.out⟩
  have HLL : Hid ((L.length ≤ 150 ∧ ∀ x ∈ L, x.length ≤ 800) ∧ (L.map List.length).sum ≤ 800) := by
    have e1 := HN1.out
    have e2 := HZ.out (by omega)
    refine ⟨⟨by omega, fun x hx => ?_⟩, by omega⟩
    have : x.length ≤ (L.map List.length).sum := len_sum hx
    omega
  have HMD : Hid _ := made_any (HL.out.below HB1.out) (by have := HLL.out.1.1; omega) (fun x hx => by have := HLL.out.1.2 x hx; omega)
  go_wp2_with fail
  refine Calls.mono HMD.out ?_
  rintro ev w3 ⟨s, va, F3, rfl, hS3, hA3, hb3, hF3⟩
  obtain ⟨C, hC⟩ : ∃ C, C = madeF L := ⟨_, rfl⟩
  rw [← hC] at hS3 hA3
  have HC : Hid (C = madeF L) := hC
  clear hC HMD
  have HW3 : Hid (Kw w2 w3 F3 s 262144 C [(.slice a2 n2 c2, lits)]) := ⟨⟨hS3, hb3, hF3⟩, fun x hx => by
    have hb := HB1.out
    rcases List.mem_cons.1 hx with rfl | hx
    · exact ((HT.out.below hb)).up hb3 hF3
    · cases hx⟩
  have HB3 : Hid (Below w.heap.size w w3) := HB1.out.trans (hb3.mono HB1.out.size)
  clear hS3 hA3 hb3 hF3
  go_wp2_with fail
  go_loopw [7, 8] (fun q i wr => ∃ (k : Nat) (x : Int), k ≤ n1 ∧ x = (k : Int) - 1 ∧ i = .int .i64 x ∧ Hid (wr.ownsRow w3.heap.size 27 1 q (n1 - k) (us.drop k).reverse ∧ Below w3.heap.size w3 wr)) (fun q i wr => (intOf i + 1).toNat)
  case atStart =>
    refine ⟨n1, (n1 : Int) - 1, Nat.le_refl _, rfl, rfl, ?_, Below.refl _ _⟩
    rw [Nat.sub_self, List.drop_eq_nil_of_le (by rw [HUS.out.1, HN1.out]; exact Nat.le_refl _)]
    exact World.ownsRow_nil _ _ _ _
  case round =>
    obtain ⟨k, x, hk, hx, rfl, hH⟩ := hrel
    obtain ⟨aq, nq, cq, hq, hnq⟩ := own_sl hH.out.1
    subst hq
    cases k with
    | succ j =>
      obtain rfl : x = (j : Int) := by omega
      have hj0 : 0 ≤ (j : Int) := by omega
      have hjn : (j : Int) < (n1 : Int) := by omega
      have hnqb : nq ≤ 200 := by rw [hnq.out]; omega
      have hul : j < us.length := by rw [HUS.out.1, ← HN1.out]; omega
      obtain ⟨u, hu⟩ : ∃ u, us[j]? = some u := ⟨_, List.getElem?_eq_getElem hul⟩
      have HU : Hid (us[j]? = some u) := hu
      obtain ⟨x0, hx0⟩ : ∃ x, L[j]? = some x := ⟨_, List.getElem?_eq_getElem (by rw [← HUS.out.1]; exact hul)⟩
      obtain ⟨hSr, r, o, rfl, hr, hc⟩ := HUS.out.2 j u x0 hu hx0
      have HRW : Hid (wr.ownsRow w3.heap.size 27 1 (.slice aq nq cq) nq (us.drop (j + 1)).reverse) := by
        have := hH.out.1
        rw [← hnq.out] at this
        exact this
      have hz3 := HB3.out.size
      have hzr := hH.out.2.size
      have hbr : Below w.heap.size w wr := HB3.out.trans (hH.out.2.mono hz3)
      have hcr := bel_cell hbr hr hc
      have hrr : r < wr.heap.size := by omega
      obtain ⟨au, cu, hue⟩ := hSr.out
      obtain ⟨nu, hnu⟩ : ∃ n, n = x0.length := ⟨_, rfl⟩
      rw [← hnu] at hue
      subst hue
      have HNR : Hid (nq = n1 - (j + 1)) := hnq.out
      clear hSr hu hnu hr hc hbr hnq hx hx0
      go_wp2_with (at_builtin; refine wpList_append_own_at _ rfl _ _ 22 rfl w3.heap.size 27 ti (.slice none 0 0) 1 24 underLists HI.out.1 HI.out.2.1 HI.out.2.2.1 HI.out.2.2.2 rfl (by decide) (.slice aq nq cq) nq _ rfl (row_kept HRW.out (fun _ hq => heap_alloc_old _ _ hq)) ⟨wr.heap.size, 0, none⟩ 1 1 [.slice au nu cu] rfl rfl (cell_one_new _ _ _) (by intro y hy; rw [List.mem_singleton.1 hy]; rfl) (by unfold maxLen; omega) (by omega) (by rw [size_alloc']; omega) ?_; intro v4 w4 hown hgrow hnil hat)
      have hb4 : Below w3.heap.size w3 w4 := low_grown hH.out.2 (by omega) hgrow (fun q e => (HRW.out.lt q e).1)
      refine ⟨⟨j, (j : Int) - 1, by omega, rfl, by go_num, ?_, hb4⟩, by simp [intOf]⟩
      rw [drop_rev HU.out, show n1 - j = nq + 1 by rw [HNR.out]; omega]
      exact hown
    | zero =>
      obtain rfl : x = -1 := by omega
      rw [List.drop_zero, Nat.sub_zero] at hH
      have HH : Hid (wr.ownsRow w3.heap.size 27 1 (.slice aq nq cq) n1 us.reverse ∧ Below w3.heap.size w3 wr) := hH.out
      have HNQ : Hid (nq = n1) := hnq.out
      clear hH hnq hx
      obtain ⟨w4, hw4⟩ : ∃ w4, w4 = wr := ⟨_, rfl⟩
      subst hw4
      go_wp2_with fail
      go_loopw [9, 10] (fun q i wr => ∃ (k : Nat) (x : Int), k ≤ n2 ∧ x = (k : Int) - 1 ∧ i = .int .i64 x ∧ Hid (Is' wr w4.heap.size q (lits.drop k).reverse ∧ Below w4.heap.size w4 wr)) (fun q i wr => (intOf i + 1).toNat)
      case atStart =>
        refine ⟨n2, (n2 : Int) - 1, Nat.le_refl _, rfl, rfl, ?_, Below.refl _ _⟩
        rw [List.drop_eq_nil_of_le (by rw [HN2.out]; exact Nat.le_refl _)]
        exact World.ownsRow_nil _ _ _ _
      case round =>
        obtain ⟨k, x, hk2, hx, rfl, hH⟩ := hrel
        obtain ⟨ap, np, cp, hq, hnp⟩ := own_sl hH.out.1
        subst hq
        have hz4 := hH.out.2.size
        have hz3 := HH.out.2.size
        have hzw := HB3.out.size
        have hbr : Below w.heap.size w wr := (HB3.out.trans (HH.out.2.mono hzw)).trans (hH.out.2.mono (by omega))
        have hSt := HT.out.below hbr
        cases k with
        | succ j =>
          obtain rfl : x = (j : Int) := by omega
          have hj0 : 0 ≤ (j : Int) := by omega
          have hjn : (j : Int) < (n2 : Int) := by omega
          obtain ⟨y, hy⟩ : ∃ y, lits[j]? = some y := ⟨_, List.getElem?_eq_getElem (by rw [← HN2.out]; omega)⟩
          have HY : Hid (lits[j]? = some y) := hy
          obtain ⟨r5, o5, rfl, hr5, hc5⟩ : ∃ r o, a2 = some ⟨r, o, none⟩ ∧ r < wr.heap.size ∧ wr.cell? ⟨r, o + j, none⟩ = some (.int .i64 y) := by
            obtain ⟨a, c, e, h2⟩ := hSt.ex
            injection e with e1 e2 e3
            rcases h2 with h2 | ⟨r, o, h3, h4, h5⟩
            · rw [h2] at hy; cases hy
            · refine ⟨r, o, e1.trans h3, h4, ?_⟩
              have := h5 j (List.getElem?_eq_some_iff.1 hy).1
              rw [List.getD_eq_getElem?_getD, hy] at this
              exact this
          have HLE : Hid (((lits.drop (j + 1)).reverse).length + [y].length ≤ 2000000) := by
            have := HN2.out
            show _ ≤ _
            simp; omega
          clear hx hy hSt hnp hbr
          go_wp2_with (at_builtin; refine wpList_app rfl _ _ rfl w4.heap.size _ (lits.drop (j + 1)).reverse rfl (row_kept hH.out.1 (fun _ hq => heap_alloc_old _ _ hq)) _ [y] rfl (sr_one wr y) HLE.out (by rw [size_alloc']; omega) ?_; intro v1 w5 hown hgrow hat)
          have hb5 : Below w4.heap.size w4 w5 := low_grown hH.out.2 (by omega) hgrow (fun q e => (World.ownsRow.lt hH.out.1 q e).1)
          refine ⟨⟨j, (j : Int) - 1, by omega, rfl, by go_num, ?_, hb5⟩, by simp [intOf]⟩
          rw [drop_rev HY.out]
          exact hown
        | zero =>
          obtain rfl : x = -1 := by omega
          rw [List.drop_zero] at hH
          have hb4r : Below w3.heap.size w3 wr := HH.out.2.trans (hH.out.2.mono hz3)
          have HLR : Hid (Lr wr (.slice aq nq cq) L.reverse) := by
            have e1 : us.reverse.length = n1 := by rw [List.length_reverse, HUS.out.1, HN1.out]
            have h1 : wr.ownsRow w3.heap.size 27 1 (.slice aq nq cq) us.reverse.length us.reverse := by
              rw [e1]
              exact row_own HH.out.1 fun q e => hH.out.2.block q (HH.out.1.lt q e).2
            refine row_lr h1 (by rw [List.length_reverse, List.length_reverse, HUS.out.1]) fun i u c hu hc => ?_
            have hi : i < L.length := by have := (List.getElem?_eq_some_iff.1 hc).1; simpa using this
            rw [List.getElem?_reverse (by rw [HUS.out.1]; exact hi)] at hu
            rw [List.getElem?_reverse hi] at hc
            rw [HUS.out.1] at hu
            exact (HUS.out.2 _ u c hu hc).1.below hbr
          have HMB : Hid _ := made_any HLR.out (by have := HLL.out.1.1; rw [List.length_reverse]; omega) (fun x hx => by have := HLL.out.1.2 x (List.mem_reverse.1 hx); omega)
          have HWR : Hid (Kw w2 wr F3 s 262144 C [(.slice a2 n2 c2, lits)]) := HW3.out.below hb4r
          have HIT : Hid (Is' wr w4.heap.size (.slice ap np cp) lits.reverse ∧ w3.heap.size ≤ w4.heap.size ∧ ∀ q, F3 q → q < w3.heap.size) := ⟨hH.out.1, hz3, HW3.out.kn.so.lt⟩
          have HBW : Hid (Below w.heap.size w wr) := hbr
          clear hH hx hSt hnp hb4r hbr
          go_wp2_with fail
          refine Calls.mono HMB.out ?_
          rintro ev w6 ⟨t, vb, F6, rfl, hS6, hA6, hb6, hF6⟩
          have HS6 : Hid (So w6 F6 t 262144 (madeF L.reverse) ∧ Below wr.heap.size wr w6 ∧ ∀ q, F6 q → wr.heap.size ≤ q) := ⟨hS6, hb6, hF6⟩
          have HW6 : Hid _ := HWR.out.below hb6
          have HF6 : Hid _ := kw_fol HW6.out (u := .slice a2 n2 c2) (l := lits) (by simp) (by have := HN2.out; omega)
          clear hS6 hA6 hb6 hF6 HMB
          go_wp2_with fail
          refine Calls.mono HF6.out ?_
          rintro ev w7 ⟨v7, m, T, rfl, hR7, F7, hW7, hC7, hI7, -⟩
          have HTM : Hid (T.length ≤ 2000) := by
            have h0 := fol_len hR7; have := HLL.out.2; have := HN2.out; have h3 := madeF_flat L
            rw [← HC.out] at h3
            show T.length ≤ 2000; omega
          have HR7 : Hid (FolR C lits T m) := hR7
          have HW7 : Hid (Kw w2 w7 F7 s 262144 C [(.slice a2 n2 c2, lits)]) := hW7
          have hd : ∀ q, F6 q → ¬ F3 q := fun q h6 h3 => by
            have := HS6.out.2.2 q h6
            have := HIT.out.2.2 q h3
            have := HIT.out.2.1
            have := (World.ownsRow.lt HIT.out.1)
            omega
          have hz2 : w2.heap.size ≤ w3.heap.size := HW3.out.kn.bel.size
          have hzr : w4.heap.size ≤ wr.heap.size := hz4
          have HK7 : Hid (Kw w2 w7 F6 t 262144 (madeF L.reverse) [(v7, T), (.slice ap np cp, lits.reverse)]) := by
            refine ⟨⟨HS6.out.1.apart hC7 hd, HW7.out.kn.bel, fun q hq => by have := HS6.out.2.2 q hq; omega⟩, fun x hx => ?_⟩
            rcases List.mem_cons.1 hx with rfl | hx
            · exact hI7.sf_low HS6.out.1.lt
            · rcases List.mem_cons.1 hx with rfl | hx
              · have h0 := HIT.out.1
                have hlt := World.ownsRow.lt h0
                have h1 : Is' w7 w4.heap.size (.slice ap np cp) lits.reverse := row_own h0 fun q e => (hC7.block q (Nat.lt_of_lt_of_le (hlt q e).2 HS6.out.2.1.size) (fun hf => by have := HIT.out.2.2 q hf; have := (hlt q e).1; omega)).trans (HS6.out.2.1.block q (hlt q e).2)
                exact h1.sf fun q e hf => by have := HS6.out.2.2 q hf; have := (hlt q e).2; omega
              · cases hx
          obtain ⟨a7, n7, k7, hv7, -⟩ := own_sl hI7
          subst hv7
          clear hR7 hW7 hC7 hI7 hd HF6
          have HF7 : Hid _ := kw_fol HK7.out (u := .slice ap np cp) (l := lits.reverse) (by simp) (by have := HN2.out; rw [List.length_reverse]; omega)
          go_wp2_with fail
          refine Calls.mono HF7.out ?_
          rintro ev w8 ⟨v8, n, T8, rfl, hR8, F8, hW8, -, hI8, hn8⟩
          have HTN : Hid (T8.length ≤ 2000) := by
            have h0 := fol_len hR8; have := HLL.out.2; have := HN2.out; have h3 := madeF_flat L.reverse
            rw [List.map_reverse, List.sum_reverse] at h3
            rw [List.length_reverse] at h0
            show T8.length ≤ 2000; omega
          have HRR : Hid ((m = -1 ↔ n = -1) ∧ (m = -1 → ∀ x, x ∈ T ↔ x ∈ T8)) := fol_order HR7.out hR8 (by rw [HC.out]; exact madeF_rev (by have := HLL.out; omega)) (fun x => List.mem_reverse)
          have HW8 : Hid _ := hW8.more (hI8.sf hn8)
          obtain ⟨a8, n8, k8, hv8, -⟩ := own_sl hI8
          subst hv8
          have HBE : Hid (Below w.heap.size w w8) := HB1.out.trans (hW8.kn.bel.mono HB1.out.size)
          clear hR8 hW8 hI8 hn8 HF7
          by_cases hm : m = -1
          · have hn : n = -1 := HRR.out.1.1 hm
            have HSE : Hid (set12 T = set12 T8) := set12_same (HRR.out.2 hm)
            subst hm hn
            clear HRR
            have HS8 : Hid _ := set12_any (HW8.out.get (v := .slice a7 n7 k7) (l := T) (by simp)) (by have := HTM.out; omega)
            go_wp2_with fail
            refine Calls.mono HS8.out ?_
            rintro ev w10 ⟨x10, rfl, hI10, hb10⟩
            have HW10 : Hid _ := (HW8.out.below hb10).more (hI10.sf_low HW8.out.kn.so.lt)
            obtain ⟨ax, nx, kx, hx10, -⟩ := own_sl hI10
            subst hx10
            clear hI10 hb10 HS8
            have HS10 : Hid _ := set12_any (HW10.out.get (v := .slice a8 n8 k8) (l := T8) (by simp)) (by have := HTN.out; omega)
            go_wp2_with fail
            refine Calls.mono HS10.out ?_
            rintro ev w11 ⟨x11, rfl, hI11, hb11⟩
            have HW11 : Hid _ := (HW10.out.below hb11).more (hI11.sf_low HW10.out.kn.so.lt)
            obtain ⟨ay, ny, ky, hx11, -⟩ := own_sl hI11
            subst hx11
            clear hI11 hb11 HS10
            have HIN : Hid _ := ints_sr (HW11.out.get (v := .slice ax nx kx) (l := set12 T) (by simp [set12])) (HW11.out.get (v := .slice ay ny ky) (l := set12 T8) (by simp [set12])) (by have := set12_le T; have := HTM.out; omega) (by have := set12_le T8; have := HTN.out; omega)
            rw [decide_eq_true HSE.out] at HIN
            go_wp2_with fail
            refine Calls.mono HIN.out ?_
            rintro ev w14 ⟨rfl, hb14⟩
            have HW14 : Hid _ := HW11.out.below hb14
            clear hb14 HIN
            go_wp2_with fail
            refine bodyPost_ret (results_tmp rfl _ _ _) rfl ?_
            exact ⟨rfl, HB1.out.trans (HW14.out.kn.bel.mono HB1.out.size)⟩
          · have hn : ¬ n = -1 := fun e => hm (HRR.out.1.2 e)
            have hm' : (m == -1) = false := by simp [hm]
            have hn' : (n == -1) = false := by simp [hn]
            go_wp2_with fail
            refine bodyPost_ret (results_tmp rfl _ _ _) rfl ?_
            refine ⟨?_, HBE.out⟩
            have hnn : (n != -1) = true := by simp [hn]
            show Ending.returned (.bool (n != -1)) = _
            rw [hnn]
end Go.Proofs.Ytcbkgnalfdoemaa
