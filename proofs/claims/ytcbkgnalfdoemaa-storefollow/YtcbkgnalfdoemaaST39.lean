/- Contracts (the laws): StoreStays. -/
import Derived.Test.YtcbkgnalfdoemaaST38
namespace Go.Proofs.Ytcbkgnalfdoemaa
open Go.RowKit
set_option linter.unusedSimpArgs false
set_option linter.unusedVariables false

set_option maxRecDepth 20000 in
set_option maxHeartbeats 25600000 in
theorem stays_any {w : World} {vl vt vo : Value} {L : List (List Int)} {lits others : List Int} (hL : Lr w vl L) (ht : Sr w vt lits) (ho : Sr w vo others) (hl : L.length ≤ 70368744177664) (hc : ∀ x ∈ L, x.length ≤ 70368744177664) :
    Calls Try.prog 8 #[vl, vt, vo] w fun ev w' => ev = .returned (.bool true) ∧ Below w.heap.size w w' := by
  have HKN : Hid _ := known_any w
  have HL : Hid _ := hL
  have HT : Hid _ := ht
  have HO : Hid _ := ho
  have HCL : Hid _ := hc
  obtain ⟨a1, c1, e1⟩ := hL.out
  obtain ⟨a2, c2, e2⟩ := ht.out
  obtain ⟨a3, c3, e3⟩ := ho.out
  obtain ⟨n1, hn1⟩ : ∃ n, n = L.length := ⟨_, rfl⟩
  obtain ⟨n2, hn2⟩ : ∃ n, n = lits.length := ⟨_, rfl⟩
  obtain ⟨n3, hn3⟩ : ∃ n, n = others.length := ⟨_, rfl⟩
  rw [← hn1] at e1
  rw [← hn2] at e2
  rw [← hn3] at e3
  have HN1 : Hid _ := hn1
  have HN2 : Hid _ := hn2
  have HN3 : Hid _ := hn3
  have HLE : Hid _ := hl
  subst e1 e2 e3
  clear hL ht ho hc hn1 hn2 hn3 hl
  go_enter Try.func8, Try.ntmps8
  go_wp2_with fail
  refine Calls.mono HKN.out ?_
  rintro ev w1 ⟨rfl, hb1⟩
  have HB1 : Hid _ := hb1
  have HSZ : Hid _ := size_any (HL.out.below hb1) HLE.out HCL.out (most := 500) (by decide) (by decide)
  clear hb1 HKN
  go_wp2_with fail
  refine Calls.mono HSZ.out ?_
  rintro ev w2 ⟨⟨z, rfl, hz⟩, rfl⟩
  have HZ : Hid _ := hz
  clear hz HSZ
  by_cases hz : 500 < z
  · go_wp2_with fail
    refine bodyPost_ret (results_tmp rfl _ _ _) rfl ?_
    exact ⟨rfl, HB1.out⟩
  by_cases h2 : (40 : Int) < (n2 : Int)
  · go_wp2_with fail
    refine bodyPost_ret (results_tmp rfl _ _ _) rfl ?_
    exact ⟨rfl, HB1.out⟩
  by_cases h3 : (40 : Int) < (n3 : Int)
  · go_wp2_with fail
    refine bodyPost_ret (results_tmp rfl _ _ _) rfl ?_
    exact ⟨rfl, HB1.out⟩
  by_cases h1 : (100 : Int) < (n1 : Int)
  · go_wp2_with fail
    refine bodyPost_ret (results_tmp rfl _ _ _) rfl ?_
    exact ⟨rfl, HB1.out⟩
  have HLL : Hid ((L.length ≤ 100 ∧ ∀ x ∈ L, x.length ≤ 500) ∧ (madeF L).flatten.length ≤ 500) := by
    have e1 := HN1.out
    have e2 := HZ.out (by omega)
    have e3 := madeF_flat L
    refine ⟨⟨by omega, fun x hx => ?_⟩, by omega⟩
    have : x.length ≤ (L.map List.length).sum := len_sum hx
    omega
  have HMD : Hid _ := made_any (HL.out.below HB1.out) (by have := HLL.out.1.1; omega) (fun x hx => by have := HLL.out.1.2 x hx; omega)
  go_wp2_with fail
  refine Calls.mono HMD.out ?_
  rintro ev w3 ⟨s, va, F3, rfl, hS3, hA3, hb3, hF3⟩
  obtain ⟨C, hC⟩ : ∃ C, C = madeF L := ⟨_, rfl⟩
  rw [← hC] at hS3 hA3
  have HCF : Hid (C.flatten.length ≤ 500) := by rw [hC]; exact HLL.out.2
  clear hC HMD
  have HW3 : Hid (Lw w2 w3 F3 s 262144 C va [(.slice a2 n2 c2, lits), (.slice a3 n3 c3, others)]) := ⟨⟨hS3, hb3, hF3⟩, hA3, fun x hx => by
    have hb := HB1.out
    rcases List.mem_cons.1 hx with rfl | hx
    · exact ((HT.out.below hb)).up hb3 hF3
    · rcases List.mem_cons.1 hx with rfl | hx
      · exact ((HO.out.below hb)).up hb3 hF3
      · cases hx⟩
  obtain ⟨aa, ca, hva⟩ := hA3.sl
  obtain ⟨na, hna⟩ : ∃ n, n = C.length := ⟨_, rfl⟩
  rw [← hna] at hva
  have hnab : na ≤ 131072 := by rw [hna]; exact hS3.len.1
  have HNA : Hid _ := hna
  subst hva
  clear hS3 hA3 hb3 hF3 hna
  have HF3 : Hid _ := lw_fol HW3.out (u := .slice a2 n2 c2) (l := lits) (by simp) (by have := HN2.out; omega)
  go_wp2_with fail
  refine Calls.mono HF3.out ?_
  rintro ev w4 ⟨va4, m, T, rfl, hR4, F4, hW4, hC4, hI4, hn4⟩
  have HTM : Hid (T.length ≤ 1000) := by
    have := fol_len hR4; have := HCF.out; have := HN2.out; show T.length ≤ 1000; omega
  have HR4 : Hid (FolR C lits T m) := hR4
  have HW4 : Hid _ := hW4
  have HI4 : Hid (Ch w3 w4 F3 F4 ∧ Is' w4 w3.heap.size va4 T ∧ ∀ q, va4.ownBlock = some q → ¬ F4 q) := ⟨hC4, hI4, hn4⟩
  have HCP : Hid _ := copyInts_sr (hI4.sf hn4).sr (by have := HTM.out; omega)
  obtain ⟨a4, n4, k4, hv4, -⟩ := own_sl hI4
  subst hv4
  clear hR4 hW4 hC4 hI4 hn4 HF3
  go_wp2_with fail
  refine Calls.mono HCP.out ?_
  rintro ev w5 ⟨v5, rfl, hI5, hb5⟩
  have HI5 : Hid (Is' w5 w4.heap.size v5 T ∧ Below w4.heap.size w4 w5) := ⟨hI5, hb5⟩
  have HSP : Hid _ := spoil_any (B := w3.heap.size) (row_own HI4.out.2.1 fun q e => hb5.block q (World.ownsRow.lt HI4.out.2.1 q e).2) (by have := HTM.out; omega)
  obtain ⟨a5, n5, k5, hv5, -⟩ := own_sl hI5
  subst hv5
  clear hI5 hb5 HCP
  go_wp2_with fail
  refine Calls.mono HSP.out ?_
  rintro ev w6 ⟨rfl, hg6, hz6⟩
  have HW6 : Hid _ := lw_spoil HW3.out HW4.out HI4.out.1 HI4.out.2.1 HI4.out.2.2 HI5.out.1 HI5.out.2 hg6 hz6
  clear hg6 hz6 HSP
  have HF6 : Hid _ := lw_fol HW6.out (u := .slice a3 n3 c3) (l := others) (by simp) (by have := HN3.out; omega)
  go_wp2_with fail
  refine Calls.mono HF6.out ?_
  rintro ev w7 ⟨v7, r7, T7, rfl, -, F7, hW7, -⟩
  have HW7 : Hid _ := hW7
  clear hW7 HF6
  have HF7 : Hid _ := lw_fol HW7.out (u := .slice a2 n2 c2) (l := lits) (by simp) (by have := HN2.out; omega)
  go_wp2_with fail
  refine Calls.mono HF7.out ?_
  rintro ev w8 ⟨v8, n, T8, rfl, hR8, F8, hW8, -, hI8, hn8⟩
  have HTN : Hid (T8.length ≤ 1000) := by
    have := fol_len hR8; have := HCF.out; have := HN2.out; show T8.length ≤ 1000; omega
  have HRR : Hid ((0 ≤ m ↔ 0 ≤ n) ∧ (m < 0 → m = n ∧ ∀ x, x ∈ T ↔ x ∈ T8)) := fol_stays HR4.out hR8
  have HW8 : Hid _ := hW8.more (hI8.sf hn8)
  have HLN : Hid _ := slen_any hW8.kn.so
  rw [← HNA.out] at HLN
  obtain ⟨a8, n8, k8, hv8, -⟩ := own_sl hI8
  subst hv8
  clear hR8 hW8 hI8 hn8 HF7
  by_cases hm : 0 ≤ m
  · have hn : 0 ≤ n := HRR.out.1.1 hm
    have hm' : ¬ m < 0 := by omega
    clear HRR
    go_wp2_with fail
    refine Calls.mono HLN.out ?_
    rintro ev w9 ⟨rfl, rfl⟩
    have HS9 : Hid _ := set12_any (HW8.out.get (v := .slice a5 n5 k5) (l := T) (by simp)) (by have := HTM.out; omega)
    go_wp2_with fail
    refine Calls.mono HS9.out ?_
    rintro ev w10 ⟨x10, rfl, hI10, hb10⟩
    have HW10 : Hid _ := (HW8.out.below hb10).more (hI10.sf_low HW8.out.kn.so.lt)
    obtain ⟨ax, nx, kx, hx10, -⟩ := own_sl hI10
    subst hx10
    clear hI10 hb10 HS9
    have HS10 : Hid _ := set12_any (HW10.out.get (v := .slice a8 n8 k8) (l := T8) (by simp)) (by have := HTN.out; omega)
    go_wp2_with fail
    refine Calls.mono HS10.out ?_
    rintro ev w11 ⟨x11, rfl, hI11, hb11⟩
    have HW11 : Hid _ := (HW10.out.below hb11).more (hI11.sf_low HW10.out.kn.so.lt)
    obtain ⟨ay, ny, ky, hx11, -⟩ := own_sl hI11
    subst hx11
    clear hI11 hb11 HS10
    go_wp2_with fail
    go_loopw [18] (fun i wr => ∃ (k : Nat), k ≤ na ∧ i = .int .i64 (k : Int) ∧ Hid (Lw w2 wr F8 s 262144 C (.slice aa na ca) [])) (fun i wr => na - (intOf i).toNat)
    case atStart => exact ⟨0, Nat.zero_le _, rfl, HW11.out.kn, HW11.out.al, fun x hx => by cases hx⟩
    case round =>
      obtain ⟨k, hk, rfl, hH⟩ := hrel
      by_cases hlt : k < na
      · have hltI : (k : Int) < (na : Int) := by omega
        obtain ⟨x, hx⟩ : ∃ x, C[k]? = some x := ⟨_, List.getElem?_eq_getElem (by rw [← HNA.out]; exact hlt)⟩
        have HX : Hid (C[k]? = some x) := hx
        have HCY : Hid _ := clause_yes hH.out.kn.so hx
        have HXL : Hid (x.length ≤ 1000) := by
          have h1 : x.length ≤ C.flatten.length := by rw [List.length_flatten]; exact len_sum (List.mem_of_getElem? hx)
          have := HCF.out
          show x.length ≤ 1000; omega
        clear hx
        go_wp2_with fail
        refine Calls.mono HCY.out ?_
        rintro ev w12 ⟨u, rfl, hu, hb12⟩
        have HW12 : Hid _ := hH.out.below hb12
        have HU : Hid _ := (hu.sf_low hH.out.kn.so.lt).sr
        obtain ⟨au, nu, ku, hue, -⟩ := own_sl hu
        subst hue
        obtain ⟨ra, y, haa, hcy, hIy⟩ := HW12.out.al.at' HX.out
        subst haa
        have hra : ra < w12.heap.size := World.block_lt_of_cell? _ _ hcy
        obtain ⟨ay2, ny2, ky2, hye, -⟩ := own_sl hIy
        subst hye
        have HIN : Hid _ := ints_sr HU.out (hIy.sf_low (F := fun _ => False) (fun _ h => h.elim)).sr (by have := HXL.out; omega) (by have := HXL.out; omega)
        rw [decide_eq_true (rfl : x = x)] at HIN
        clear hu hb12 hIy HCY
        go_wp2_with fail
        refine Calls.mono HIN.out ?_
        rintro ev w13 ⟨rfl, hb13⟩
        have HW13 : Hid _ := HW12.out.below hb13
        clear hb13 HIN
        go_wp2_with fail
        refine ⟨⟨k + 1, by omega, rfl, HW13.out⟩, ?_⟩
        show na - (k + 1 : Int).toNat < na - (k : Int).toNat
        omega
      · have hltI : ¬ (k : Int) < (na : Int) := by omega
        go_wp2_with fail
        refine bodyPost_ret (results_tmp rfl _ _ _) rfl ?_
        exact ⟨rfl, HB1.out.trans (hH.out.kn.bel.mono HB1.out.size)⟩
  · have hm0 : m < 0 := by omega
    obtain ⟨e1, e2⟩ := HRR.out.2 hm0
    have HSE : Hid (set12 T = set12 T8) := set12_same e2
    subst e1
    clear e2 HRR
    go_wp2_with fail
    refine Calls.mono HLN.out ?_
    rintro ev w9 ⟨rfl, rfl⟩
    have HS9 : Hid _ := set12_any (HW8.out.get (v := .slice a5 n5 k5) (l := T) (by simp)) (by have := HTM.out; omega)
    go_wp2_with fail
    refine Calls.mono HS9.out ?_
    rintro ev w10 ⟨x10, rfl, hI10, hb10⟩
    have HW10 : Hid _ := (HW8.out.below hb10).more (hI10.sf_low HW8.out.kn.so.lt)
    obtain ⟨ax, nx, kx, hx10, -⟩ := own_sl hI10
    subst hx10
    clear hI10 hb10 HS9
    have HS10 : Hid _ := set12_any (HW10.out.get (v := .slice a8 n8 k8) (l := T8) (by simp)) (by have := HTN.out; omega)
    go_wp2_with fail
    refine Calls.mono HS10.out ?_
    rintro ev w11 ⟨x11, rfl, hI11, hb11⟩
    have HW11 : Hid _ := (HW10.out.below hb11).more (hI11.sf_low HW10.out.kn.so.lt)
    obtain ⟨ay, ny, ky, hx11, -⟩ := own_sl hI11
    subst hx11
    clear hI11 hb11 HS10
    go_wp2_with fail
    have HIN : Hid _ := ints_sr (HW11.out.get (v := .slice ax nx kx) (l := set12 T) (by simp [set12])) (HW11.out.get (v := .slice ay ny ky) (l := set12 T8) (by simp [set12])) (by have := set12_le T; have := HTM.out; omega) (by have := set12_le T8; have := HTN.out; omega)
    rw [decide_eq_true HSE.out] at HIN
    refine Calls.mono HIN.out ?_
    rintro ev w14 ⟨rfl, hb14⟩
    have HW14 : Hid _ := HW11.out.below hb14
    clear hb14 HIN
    go_wp2_with fail
    go_loopw [18] (fun i wr => ∃ (k : Nat), k ≤ na ∧ i = .int .i64 (k : Int) ∧ Hid (Lw w2 wr F8 s 262144 C (.slice aa na ca) [])) (fun i wr => na - (intOf i).toNat)
    case atStart => exact ⟨0, Nat.zero_le _, rfl, HW14.out.kn, HW14.out.al, fun x hx => by cases hx⟩
    case round =>
      obtain ⟨k, hk, rfl, hH⟩ := hrel
      by_cases hlt : k < na
      · have hltI : (k : Int) < (na : Int) := by omega
        obtain ⟨x, hx⟩ : ∃ x, C[k]? = some x := ⟨_, List.getElem?_eq_getElem (by rw [← HNA.out]; exact hlt)⟩
        have HX : Hid (C[k]? = some x) := hx
        have HCY : Hid _ := clause_yes hH.out.kn.so hx
        have HXL : Hid (x.length ≤ 1000) := by
          have h1 : x.length ≤ C.flatten.length := by rw [List.length_flatten]; exact len_sum (List.mem_of_getElem? hx)
          have := HCF.out
          show x.length ≤ 1000; omega
        clear hx
        go_wp2_with fail
        refine Calls.mono HCY.out ?_
        rintro ev w12 ⟨u, rfl, hu, hb12⟩
        have HW12 : Hid _ := hH.out.below hb12
        have HU : Hid _ := (hu.sf_low hH.out.kn.so.lt).sr
        obtain ⟨au, nu, ku, hue, -⟩ := own_sl hu
        subst hue
        obtain ⟨ra, y, haa, hcy, hIy⟩ := HW12.out.al.at' HX.out
        subst haa
        have hra : ra < w12.heap.size := World.block_lt_of_cell? _ _ hcy
        obtain ⟨ay2, ny2, ky2, hye, -⟩ := own_sl hIy
        subst hye
        have HIN : Hid _ := ints_sr HU.out (hIy.sf_low (F := fun _ => False) (fun _ h => h.elim)).sr (by have := HXL.out; omega) (by have := HXL.out; omega)
        rw [decide_eq_true (rfl : x = x)] at HIN
        clear hu hb12 hIy HCY
        go_wp2_with fail
        refine Calls.mono HIN.out ?_
        rintro ev w13 ⟨rfl, hb13⟩
        have HW13 : Hid _ := HW12.out.below hb13
        clear hb13 HIN
        go_wp2_with fail
        refine ⟨⟨k + 1, by omega, rfl, HW13.out⟩, ?_⟩
        show na - (k + 1 : Int).toNat < na - (k : Int).toNat
        omega
      · have hltI : ¬ (k : Int) < (na : Int) := by omega
        go_wp2_with fail
        refine bodyPost_ret (results_tmp rfl _ _ _) rfl ?_
        exact ⟨rfl, HB1.out.trans (hH.out.kn.bel.mono HB1.out.size)⟩
theorem stays_law (W : World) {vl vt vo : Value} {L : List (List Int)} {lits others : List Int} (hL : Lr W vl L) (_ : ∀ c ∈ L, ∀ y ∈ c, w64 y) (hB : L.length ≤ 70368744177664 ∧ ∀ c ∈ L, c.length ≤ 70368744177664) (ht : Sr W vt lits) (_ : ∀ y ∈ lits, w64 y) (_ : lits.length ≤ 70368744177664) (ho : Sr W vo others) (_ : ∀ y ∈ others, w64 y) (_ : others.length ≤ 70368744177664) :
    Calls Try.prog 8 #[vl, vt, vo] W fun ev w' => ev = .returned (.bool true) ∧ Below W.heap.size W w' := stays_any hL ht ho hB.1 hB.2
end Go.Proofs.Ytcbkgnalfdoemaa
