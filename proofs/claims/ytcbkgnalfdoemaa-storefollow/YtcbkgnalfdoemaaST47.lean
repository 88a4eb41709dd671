/- Contracts (the laws): StoreFollow. -/
import Derived.Test.YtcbkgnalfdoemaaST46
namespace Go.Proofs.Ytcbkgnalfdoemaa
open Go.RowKit
set_option linter.unusedSimpArgs false
set_option linter.unusedVariables false

set_option maxRecDepth 20000 in
set_option maxHeartbeats 3200000 in
theorem follow_law (w : World) {vl vt : Value} {L : List (List Int)} {lits : List Int} (hL : Lr w vl L) (_ : ∀ c ∈ L, ∀ y ∈ c, w64 y) (hLB : L.length ≤ 70368744177664 ∧ ∀ c ∈ L, c.length ≤ 70368744177664) (ht : Sr w vt lits) (hw : ∀ y ∈ lits, w64 y) (_ : lits.length ≤ 70368744177664) :
    Calls Try.prog 4 #[vl, vt] w fun ev w' => ev = .returned (.bool true) ∧ Below w.heap.size w w' := by
  have HKN : Hid _ := known_any w
  have HL : Hid (Lr w vl L) := hL
  have HT : Hid (Sr w vt lits) := ht
  have HLB : Hid _ := hLB
  have HWF : Hid (∀ y ∈ lits, w64 y) := hw
  obtain ⟨a1, c1, e1⟩ := hL.out
  obtain ⟨a2, c2, e2⟩ := ht.out
  obtain ⟨n1, hn1⟩ : ∃ n, n = L.length := ⟨_, rfl⟩
  obtain ⟨n2, hn2⟩ : ∃ n, n = lits.length := ⟨_, rfl⟩
  rw [← hn1] at e1
  rw [← hn2] at e2
  have HN1 : Hid _ := hn1
  have HN2 : Hid _ := hn2
  subst e1 e2
  clear hL ht hLB hn1 hn2 hw
  go_enter Try.func4, Try.ntmps4
  go_wp2_with fail
  refine Calls.mono HKN.out ?_
  rintro ev w1 ⟨rfl, hb1⟩
  have HB1 : Hid _ := hb1
  have HSZ : Hid _ := size_any (HL.out.below hb1) HLB.out.1 HLB.out.2 (most := 800) (by decide) (by decide)
  clear hb1 HKN
  go_wp2_with fail
  refine Calls.mono HSZ.out ?_
  rintro ev w2 ⟨⟨z, rfl, hz⟩, rfl⟩
  have HZ : Hid _ := hz
  clear hz HSZ
  by_cases hz : 800 < z
  · go_wp2_with fail
    refine bodyPost_ret (results_tmp rfl _ _ _) rfl ?_
    exact ⟨rfl, HB1.out⟩
  by_cases h1 : (150 : Int) < (n1 : Int)
  · go_wp2_with fail
    refine bodyPost_ret (results_tmp rfl _ _ _) rfl ?_
    exact ⟨rfl, HB1.out⟩
  by_cases h2 : (60 : Int) < (n2 : Int)
  · go_wp2_with fail
    refine bodyPost_ret (results_tmp rfl _ _ _) rfl ?_
    exact ⟨rfl, HB1.out⟩
  have HLL : Hid ((L.length ≤ 150 ∧ ∀ x ∈ L, x.length ≤ 800) ∧ (madeF L).flatten.length ≤ 800) := by
    have e1 := HN1.out
    have e2 := HZ.out (by omega)
    have e3 := madeF_flat L
    refine ⟨⟨by omega, fun x hx => ?_⟩, by omega⟩
    have : x.length ≤ (L.map List.length).sum := len_sum hx
    omega
  have HMD : Hid _ := made_any (HL.out.below HB1.out) (by have := HLL.out.1.1; omega) (fun x hx => by have := HLL.out.1.2 x hx; omega)
  go_wp2_with fail
  refine Calls.mono HMD.out ?_
  rintro ev w3 ⟨s, va, F3, rfl, hS3, hA3, hb3, hF3⟩
  obtain ⟨C, hC⟩ : ∃ C, C = madeF L := ⟨_, rfl⟩
  rw [← hC] at hS3 hA3
  have HCF : Hid (C.flatten.length ≤ 800) := by rw [hC]; exact HLL.out.2
  clear hC HMD
  have HW3 : Hid (Lw w2 w3 F3 s 262144 C va [(.slice a2 n2 c2, lits)]) := ⟨⟨hS3, hb3, hF3⟩, hA3, fun x hx => by
    have hb := HB1.out
    rcases List.mem_cons.1 hx with rfl | hx
    · exact ((HT.out.below hb)).up hb3 hF3
    · cases hx⟩
  obtain ⟨aa, ca, hva⟩ := hA3.sl
  obtain ⟨na, hna⟩ : ∃ n, n = C.length := ⟨_, rfl⟩
  rw [← hna] at hva
  have hnab : na ≤ 131072 := by rw [hna]; exact hS3.len.1
  have HNA : Hid (na = C.length) := hna
  subst hva
  clear hS3 hA3 hb3 hF3 hna
  have HCP : Hid _ := copyInts_sr (HW3.out.get (v := .slice a2 n2 c2) (l := lits) (by simp)) (by have := HN2.out; omega)
  go_wp2_with fail
  refine Calls.mono HCP.out ?_
  rintro ev w4 ⟨v4, rfl, hI4, hb4⟩
  have HW4 : Hid _ := (HW3.out.below hb4).more (hI4.sf_low HW3.out.kn.so.lt)
  obtain ⟨a4, n4, k4, hv4, -⟩ := own_sl hI4
  subst hv4
  clear hI4 hb4 HCP
  have HF4 : Hid _ := lw_fol HW4.out (u := .slice a4 n4 k4) (l := lits) (by simp) (by have := HN2.out; omega)
  go_wp2_with fail
  refine Calls.mono HF4.out ?_
  rintro ev w5 ⟨v5, r, T, rfl, hR5, F5, hW5, -, hI5, hn5⟩
  have HTM : Hid (T.length ≤ 2000) := by
    have := fol_len hR5; have := HCF.out; have := HN2.out; show T.length ≤ 2000; omega
  have HR5 : Hid (FolR C lits T r) := hR5
  have HW5 : Hid _ := hW5
  have HIN : Hid _ := ints_sr (hW5.get (v := .slice a4 n4 k4) (l := lits) (by simp)) (hW5.get (v := .slice a2 n2 c2) (l := lits) (by simp)) (by have := HN2.out; omega) (by have := HN2.out; omega)
  rw [decide_eq_true (rfl : lits = lits)] at HIN
  have HI5 : Hid (Is' w5 w4.heap.size v5 T ∧ ∀ q, v5.ownBlock = some q → ¬ F5 q) := ⟨hI5, hn5⟩
  obtain ⟨a5, n5, k5, hv5, HN5⟩ := own_sl hI5
  subst hv5
  have hn5b : n5 ≤ 2000 := by rw [HN5.out]; exact HTM.out
  clear hR5 hW5 hI5 hn5 HF4
  go_wp2_with fail
  refine Calls.mono HIN.out ?_
  rintro ev w6 ⟨rfl, hb6⟩
  have HI6 : Hid (Is' w6 w4.heap.size (.slice a5 n5 k5) T) := row_own HI5.out.1 fun q e => hb6.block q (World.ownsRow.lt HI5.out.1 q e).2
  have HW6 : Hid (Lw w2 w6 F5 s 262144 C (.slice aa na ca) [(.slice a5 n5 k5, T), (.slice a4 n4 k4, lits), (.slice a2 n2 c2, lits)]) := (HW5.out.more (HI5.out.1.sf HI5.out.2)).below hb6
  have HOK : Hid (∀ c ∈ C, Okc c) := HW5.out.kn.so.ok
  clear hb6 HIN
  have HBE : Hid (Below w.heap.size w w6) := HB1.out.trans (HW6.out.kn.bel.mono HB1.out.size)
  go_wp2_with fail
  go_loopw [10] (fun i wr => ∃ (k : Nat), k ≤ n5 ∧ i = .int .i64 (k : Int) ∧ Hid (Al w6 wr)) (fun i wr => n5 - (intOf i).toNat)
  case atStart => exact ⟨0, Nat.zero_le _, rfl, Al.refl _⟩
  case round =>
    obtain ⟨k, hk, rfl, hA⟩ := hrel
    by_cases hlt : k < n5
    · have hltI : (k : Int) < (n5 : Int) := by omega
      obtain ⟨x, hx⟩ : ∃ x, T[k]? = some x := ⟨_, List.getElem?_eq_getElem (by rw [← HN5.out]; exact hlt)⟩
      obtain ⟨hy1, hy2, hy3⟩ := fol_why HR5.out (fun c hc => (HOK.out c hc).once) hx
      have HY3 : Hid (x ∈ lits ∨ C.any (rsn (T.take k) x) = true) := hy3
      have hxb : -65536 ≤ x ∧ x ≤ 65536 := by
        obtain ⟨_, _, _, hL, _⟩ := HR5.out
        exact isL_sm (hL x (List.mem_of_getElem? hx))
      have hTne : T ≠ [] := fun e => by rw [e] at hx; cases hx
      obtain ⟨r5, cap5, e5, -, hcap, hLi⟩ := HI6.out.li hTne
      injection e5 with e51 e52 e53
      subst e51 e53
      have hr6 : r5 < w6.heap.size := (World.ownsRow.lt HI6.out r5 rfl).2
      have hbA := hA.out.below w6.heap.size
      have hr5 : r5 < wr.heap.size := Nat.lt_of_lt_of_le hr6 hbA.size
      have hc5 : wr.cell? ⟨r5, k, none⟩ = some (.int .i64 x) := by
        have := hLi k (by rw [← HN5.out]; exact hlt)
        rw [List.getD_eq_getElem?_getD, hx, Nat.zero_add] at this
        exact bel_cell hbA hr6 this
      have hcap' : n5 ≤ k5 := by rw [HN5.out]; exact hcap
      have hSt : Sr w6 (.slice (some ⟨r5, 0, none⟩) k k5) (T.take k) := ⟨some ⟨r5, 0, none⟩, k5, by rw [List.length_take, ← HN5.out, Nat.min_eq_left (by omega)], Or.inr ⟨r5, 0, rfl, hr6, fun j hj => by
        rw [List.length_take] at hj
        have := hLi j (by omega)
        rw [List.getD_eq_getElem?_getD, List.getElem?_take_of_lt (by omega), ← List.getD_eq_getElem?_getD]
        exact this⟩⟩
      have HS6 : Hid (Sr w6 (.slice (some ⟨r5, 0, none⟩) k k5) (T.take k)) := hSt
      have HST : Hid (∀ d, Sr (wr.drewN d) (.slice (some ⟨r5, 0, none⟩) k k5) (T.take k)) := fun d => (hSt.below hbA).below ((Al.drewN wr d).below _)
      have HHB : Hid (∀ (y : Int) (_ : y = x ∨ y = -x) (d : Nat), Calls Try.prog 24 #[.slice (some ⟨r5, 0, none⟩) k k5, .int .i64 y] (wr.drewN d) fun e w' => e = .returned (.bool false) ∧ w' = wr.drewN d) := fun y hy d => by
        have := rhas_any (HST.out d) (by rw [List.length_take]; have := HTM.out; omega) y
        rw [decide_eq_false (by rcases hy with rfl | rfl; exact hy1; exact hy2)] at this
        exact this
      have HXI : Hid (T[k]? = some x) := hx
      clear hx hy1 hy2 hy3 hTne hcap hLi hSt e52 hbA
      go_wp2_with fail
      go_quiet ((go_at_call 24; refine Calls.quiet_of_same (HHB.out _ (by first | exact Or.inl rfl | exact Or.inr rfl) _)))
      obtain ⟨wd, hwd⟩ : ∃ wd, wd = wr.drewN nq := ⟨_, rfl⟩
      rw [← hwd]
      have HAD : Hid (Al w6 wd) := by
        unfold Hid
        rw [hwd]; exact hA.out.trans (Al.drewN wr nq)
      have hrd : r5 < wd.heap.size := by rw [hwd]; exact hr5
      have hcd : wd.cell? ⟨r5, k, none⟩ = some (.int .i64 x) := by rw [hwd]; exact hc5
      have HHL : Hid _ := rhas_any ((HW6.out.get (v := .slice a2 n2 c2) (l := lits) (by simp)).below (HAD.out.below _)) (by have := HN2.out; omega) x
      obtain ⟨wy, hwy⟩ : ∃ b, b = decide (x ∈ lits) := ⟨_, rfl⟩
      rw [← hwy] at HHL
      have HWY : Hid (wy = decide (x ∈ lits)) := hwy
      clear hwd hwy HHB hc5
      go_wp2_with fail
      refine Calls.mono HHL.out ?_
      rintro ev w7 ⟨rfl, rfl⟩
      clear HHL
      obtain ⟨w8, hw8⟩ : ∃ w8, w8 = wr := ⟨_, rfl⟩
      subst hw8
      go_wp2_with fail
      go_loopw [11, 12] (fun y i wr => ∃ (j : Nat) (b : Bool), j ≤ na ∧ y = .bool b ∧ i = .int .i64 (j : Int) ∧ Hid (b = (decide (x ∈ lits) || (C.take j).any (rsn (T.take k) x))) ∧ Hid (Al w6 wr)) (fun y i wr => na - (intOf i).toNat)
      case atStart => exact ⟨0, wy, Nat.zero_le _, rfl, rfl, by unfold Hid; rw [HWY.out]; simp, HAD.out⟩
      case round =>
        obtain ⟨j, b, hj, rfl, rfl, hB, hA2⟩ := hrel
        by_cases hgo : j < na ∧ b = false
        · obtain ⟨hjn, rfl⟩ := hgo
          have hjI : (j : Int) < (na : Int) := by omega
          obtain ⟨c, hc⟩ : ∃ c, C[j]? = some c := ⟨_, List.getElem?_eq_getElem (by rw [← HNA.out]; exact hjn)⟩
          have HC : Hid (C[j]? = some c) := hc
          have hcl : c.length ≤ 1000 := by
            have h1 : c.length ≤ C.flatten.length := by rw [List.length_flatten]; exact len_sum (List.mem_of_getElem? hc)
            have := HCF.out
            omega
          have hok := HOK.out c (List.mem_of_getElem? hc)
          obtain ⟨ra, u, haa, hcu, hIu⟩ := (HW6.out.below (hA2.out.below _)).al.at' hc
          subst haa
          have hra : ra < wr.heap.size := World.block_lt_of_cell? _ _ hcu
          have HU : Hid (∀ w', Al wr w' → Sr w' u c) := fun w' h => ((hIu.sf_low (F := fun _ => False) (fun _ h => h.elim)).sr).below (h.below _)
          obtain ⟨au, nu, ku, hue, -⟩ := own_sl hIu
          subst hue
          have HSP : Hid (∀ w', Al wr w' → Sr w' (.slice (some ⟨r5, 0, none⟩) k k5) (T.take k)) := fun w' h => HS6.out.below ((hA2.out.trans h).below _)
          have hTl : (T.take k).length ≤ 1000000 := by rw [List.length_take]; have := HTM.out; omega
          obtain ⟨lb, hlb⟩ : ∃ b, b = (leftF (T.take k) c 0).1 := ⟨_, rfl⟩
          obtain ⟨ln, hln⟩ : ∃ b, b = (leftF (T.take k) c 0).2 := ⟨_, rfl⟩
          obtain ⟨hb, hhb⟩ : ∃ b, b = decide (x ∈ c) := ⟨_, rfl⟩
          have HLF : Hid (∀ w', Al wr w' → Calls Try.prog 25 #[.slice au nu ku, .slice (some ⟨r5, 0, none⟩) k k5] w' fun ev w2 => ev = .returned (.tuple #[.bool lb, .int .i64 (ln : Int)]) ∧ w2 = w') := fun w' h => by
            rw [hlb, hln]
            exact left_any (HU.out w' h) (HSP.out w' h) (by omega) hTl fun y hy => by
              have := isL_sm (hok.lit y hy)
              unfold sm at this
              exact ⟨⟨by omega, by omega⟩, by omega⟩
          have HHC : Hid (∀ w', Al wr w' → Calls Try.prog 24 #[.slice au nu ku, .int .i64 x] w' fun ev w2 => ev = .returned (.bool hb) ∧ w2 = w') := fun w' h => by
            rw [hhb]
            exact rhas_any (HU.out w' h) (by omega) x
          have HNX : Hid (((!lb && ln == 1) && hb) = (decide (x ∈ lits) || (C.take (j + 1)).any (rsn (T.take k) x))) := by
            have h1 := hB.out
            have h2 : (C.take (j + 1)).any (rsn (T.take k) x) = ((C.take j).any (rsn (T.take k) x) || rsn (T.take k) x c) := by rw [List.take_add_one, hc]; simp
            rw [Bool.eq_iff_iff] at h1
            unfold Hid
            rw [h2, ← Bool.or_assoc, ← hB.out, Bool.false_or, hlb, hln, hhb]
            rfl
          have hcd2 : wr.cell? ⟨r5, k, none⟩ = some (.int .i64 x) := (hA2.out.cell _).trans ((HAD.out.cell _).symm.trans hcd)
          have hrd2 : r5 < wr.heap.size := by rw [hA2.out.heap, ← HAD.out.heap]; exact hrd
          clear hc hok hIu hlb hln hhb hTl
          go_wp2_with fail
          go_quiet ((go_at_call 25; refine Calls.quiet_of_same (HLF.out _ (Al.drewN wr _))))
          obtain ⟨w9, hw9⟩ : ∃ wd, wd = wr.drewN nq := ⟨_, rfl⟩
          rw [← hw9]
          have HA9 : Hid (Al wr w9) := by unfold Hid; rw [hw9]; exact Al.drewN wr nq
          have HAW : Hid (∀ d, Al wr (w9.drewN d)) := fun d => HA9.out.trans (Al.drewN w9 d)
          have HA3 : Hid (∀ d, Al w6 (w9.drewN d)) := fun d => hA2.out.trans (HAW.out d)
          have hcu9 : w9.cell? ⟨ra, j, none⟩ = some (.slice au nu ku) := (HA9.out.cell _).trans hcu
          have hcd9 : w9.cell? ⟨r5, k, none⟩ = some (.int .i64 x) := (HA9.out.cell _).trans hcd2
          have hra9 : ra < w9.heap.size := by rw [HA9.out.heap]; exact hra
          have hrd9 : r5 < w9.heap.size := by rw [HA9.out.heap]; exact hrd2
          clear hw9 HLF hcu hcd2
          cases lb with
          | true =>
            go_wp2_with fail
            go_quiet (fail)
            go_wp2_with fail
            exact ⟨⟨j + 1, _, by omega, rfl, by go_num, HNX.out, HA3.out _⟩, by simp [intOf]; omega⟩
          | false =>
            by_cases hl1 : ln = 1
            · subst hl1
              go_wp2_with fail
              go_quiet ((go_at_call 24; refine Calls.quiet_of_same (HHC.out _ (HAW.out _))))
              go_wp2_with fail
              exact ⟨⟨j + 1, _, by omega, rfl, by go_num, HNX.out, HA3.out _⟩, by simp [intOf]; omega⟩
            · have hl2 : ((ln : Int) == 1) = false := by simp; omega
              have HNY : Hid (false = (decide (x ∈ lits) || (C.take (j + 1)).any (rsn (T.take k) x))) := by
                unfold Hid
                rw [← HNX.out]; simp [hl1]
              go_wp2_with fail
              go_quiet (fail)
              go_wp2_with fail
              exact ⟨⟨j + 1, _, by omega, rfl, by go_num, HNY.out, HA3.out _⟩, by simp [intOf]; omega⟩
        · have hbt : b = true := by
            cases b with
            | true => rfl
            | false =>
              exfalso
              have hjn : j = na := by
                by_cases h : j < na
                · exact absurd ⟨h, rfl⟩ hgo
                · omega
              have h1 := hB.out
              rw [hjn, HNA.out, List.take_length] at h1
              rcases HY3.out with h2 | h2
              · rw [decide_eq_true h2] at h1; simp at h1
              · rw [h2] at h1; simp at h1
          subst hbt
          by_cases hjn : (j : Int) < (na : Int)
          · go_wp2_with fail
            exact ⟨⟨k + 1, by omega, by go_num, hA2.out⟩, by simp [intOf]; omega⟩
          · go_wp2_with fail
            exact ⟨⟨k + 1, by omega, by go_num, hA2.out⟩, by simp [intOf]; omega⟩
    · obtain rfl : k = n5 := by omega
      have hltI : ¬ (k : Int) < (k : Int) := by omega
      obtain ⟨w7, hw7⟩ : ∃ w7, w7 = wr := ⟨_, rfl⟩
      subst hw7
      have HW7 : Hid _ := HW6.out.below (hA.out.below _)
      have HBW : Hid (Below w.heap.size w w7) := HBE.out.trans (hA.out.below _)
      have HOT : Hid (Sr w7 (.slice a5 k k5) T) := HW7.out.get (by simp)
      have HLI : Hid (Sr w7 (.slice a2 n2 c2) lits) := HW7.out.get (by simp)
      obtain ⟨q, hq, hd, hL, hnd, hcs, hin, hend⟩ := HR5.out
      by_cases hr0 : 0 ≤ r
      · obtain ⟨i, c, rfl, hci, hf⟩ : ∃ (i : Nat) (c : List Int), r = (i : Int) ∧ C[i]? = some c ∧ ∀ y ∈ c, -y ∈ T := by
          rcases hend with ⟨e, -⟩ | ⟨e, -⟩ | ⟨i, c, e, h1, h2, -⟩
          · omega
          · omega
          · exact ⟨i, c, e, h1, h2⟩
        have HCY : Hid _ := clause_yes HW7.out.kn.so hci
        have HLN : Hid (leftF T c 0 = (false, 0)) := left_none hcs hf
        have hok := HOK.out c (List.mem_of_getElem? hci)
        have hcl : c.length ≤ 1000 := by
          have h1 : c.length ≤ C.flatten.length := by rw [List.length_flatten]; exact len_sum (List.mem_of_getElem? hci)
          have := HCF.out
          omega
        have HWC : Hid (∀ y ∈ c, w64 y ∧ y ≠ -9223372036854775808) := fun y hy => by
          have := isL_sm (hok.lit y hy)
          unfold sm at this
          exact ⟨⟨by omega, by omega⟩, by omega⟩
        clear hd hL hnd hcs hin hend hci hf hok hq
        go_wp2_with fail
        refine Calls.mono HCY.out ?_
        rintro ev w8 ⟨u, rfl, hu, hb8⟩
        have HLF : Hid _ := left_any (hu.sf_low HW7.out.kn.so.lt).sr (HOT.out.below hb8) (by omega) (by have := HTM.out; omega) HWC.out
        rw [HLN.out] at HLF
        have HB8 : Hid (Below w.heap.size w w8) := HBW.out.trans (hb8.mono HBW.out.size)
        obtain ⟨au, nu, ku, hue, -⟩ := own_sl hu
        subst hue
        clear hu hb8 HCY
        go_wp2_with fail
        refine Calls.mono HLF.out ?_
        rintro ev w9 ⟨rfl, rfl⟩
        go_wp2_with fail
        refine bodyPost_ret (results_tmp rfl _ _ _) rfl ?_
        exact ⟨rfl, HB8.out⟩
      · have hrn : r < 0 := by omega
        have hclo : Clo C T := by
          rcases hend with ⟨-, -, h⟩ | ⟨-, h, -⟩ | ⟨i, c, e, -⟩
          · exact h
          · exact h
          · omega
        have HCLO : Hid (Clo C T) := hclo
        have HEND : Hid ((r = -1 ∧ ∀ y ∈ lits, y ∈ T) ∨ (r = -2 ∧ ∃ x, lits[q]? = some x ∧ (isL x = false ∨ -x ∈ T))) := by
          rcases hend with ⟨e1, e2, -⟩ | ⟨e1, -, e2⟩ | ⟨i, c, e, -⟩
          · rw [e2, List.take_length] at hin
            exact Or.inl ⟨e1, hin⟩
          · exact Or.inr ⟨e1, e2⟩
          · omega
        have HIN : Hid (∀ (j : Nat) y, j < q → lits[j]? = some y → y ∈ T ∧ -y ∉ T ∧ isL y = true) := fun j y hj hy => by
          have := hin y (at_take hy hj)
          exact ⟨this, hcs y this, hL y this⟩
        have hqn : q ≤ n2 := by rw [HN2.out]; exact hq
        have HAS : Hid (∀ y : Int, Calls Try.prog 24 #[.slice a5 k k5, .int .i64 y] w7 fun ev w2 => ev = .returned (.bool (decide (y ∈ T))) ∧ w2 = w7) := fun y => rhas_any HOT.out (by have := HTM.out; omega) y
        have HCE : Hid (∀ (j : Nat) y, lits[j]? = some y → ∃ r o, a2 = some ⟨r, o, none⟩ ∧ r < w7.heap.size ∧ w7.cell? ⟨r, o + j, none⟩ = some (.int .i64 y)) := fun j y hy => (HW7.out.sl (.slice a2 n2 c2, lits) (by simp)).cell hy
        clear hd hL hnd hcs hin hend hclo hq
        go_wp2_with fail
        go_loopw [19] (fun i wr => ∃ (j : Nat), j ≤ na ∧ i = .int .i64 (j : Int) ∧ w7 = wr) (fun i wr => na - (intOf i).toNat)
        case atStart => exact ⟨0, Nat.zero_le _, rfl, rfl⟩
        case round =>
          obtain ⟨j, hj, rfl, rfl⟩ := hrel
          by_cases hjn : j < na
          · have hjI : (j : Int) < (na : Int) := by omega
            obtain ⟨c, hc⟩ : ∃ c, C[j]? = some c := ⟨_, List.getElem?_eq_getElem (by rw [← HNA.out]; exact hjn)⟩
            have hcl : c.length ≤ 1000 := by
              have h1 : c.length ≤ C.flatten.length := by rw [List.length_flatten]; exact len_sum (List.mem_of_getElem? hc)
              have := HCF.out
              omega
            have hok := HOK.out c (List.mem_of_getElem? hc)
            have hlc := left_clo HCLO.out (List.mem_of_getElem? hc)
            obtain ⟨ra, u, haa, hcu, hIu⟩ := HW7.out.al.at' hc
            subst haa
            have hra : ra < w7.heap.size := World.block_lt_of_cell? _ _ hcu
            have HLF : Hid _ := left_any (hIu.sf_low (F := fun _ => False) (fun _ h => h.elim)).sr HOT.out (by omega) (by have := HTM.out; omega) (fun y hy => by
              have := isL_sm (hok.lit y hy)
              unfold sm at this
              exact ⟨⟨by omega, by omega⟩, by omega⟩)
            obtain ⟨lb, hlb⟩ : ∃ b, b = (leftF T c 0).1 := ⟨_, rfl⟩
            obtain ⟨ln, hln⟩ : ∃ b, b = (leftF T c 0).2 := ⟨_, rfl⟩
            rw [← hlb, ← hln] at HLF hlc
            obtain ⟨au, nu, ku, hue, -⟩ := own_sl hIu
            subst hue
            clear hc hok hIu hlb hln
            go_wp2_with fail
            refine Calls.mono HLF.out ?_
            rintro ev w9 ⟨rfl, rfl⟩
            cases lb with
            | true =>
              go_wp2_with fail
              exact ⟨⟨j + 1, by omega, by go_num, by first | rfl | trivial⟩, by simp [intOf]; omega⟩
            | false =>
              have hl2 : ¬ (ln : Int) < 2 := by
                rcases hlc with h | h
                · cases h
                · omega
              clear hlc
              go_wp2_with fail
              exact ⟨⟨j + 1, by omega, by go_num, by first | rfl | trivial⟩, by simp [intOf]; omega⟩
          · obtain rfl : j = na := by omega
            have hjI : ¬ (j : Int) < (j : Int) := by omega
            rcases HEND.out with ⟨rfl, hall⟩ | ⟨rfl, x, hxq, hx⟩
            · have HALL : Hid (∀ y ∈ lits, y ∈ T) := hall
              clear hall
              go_wp2_with fail
              go_loopw [22] (fun i wr => ∃ (p : Nat), p ≤ n2 ∧ i = .int .i64 (p : Int) ∧ w7 = wr) (fun i wr => n2 - (intOf i).toNat)
              case atStart => exact ⟨0, Nat.zero_le _, rfl, rfl⟩
              case round =>
                obtain ⟨p, hp, rfl, rfl⟩ := hrel
                by_cases hpn : p < n2
                · have hpI : (p : Int) < (n2 : Int) := by omega
                  obtain ⟨y, hy⟩ : ∃ y, lits[p]? = some y := ⟨_, List.getElem?_eq_getElem (by rw [← HN2.out]; exact hpn)⟩
                  obtain ⟨r2, o2, rfl, hr2, hc2⟩ := HCE.out p y hy
                  have HAY : Hid _ := HAS.out y
                  rw [decide_eq_true (HALL.out y (List.mem_of_getElem? hy))] at HAY
                  clear hy
                  go_wp2_with fail
                  refine Calls.mono HAY.out ?_
                  rintro ev w9 ⟨rfl, rfl⟩
                  go_wp2_with fail
                  exact ⟨⟨p + 1, by omega, by go_num, by first | rfl | trivial⟩, by simp [intOf]; omega⟩
                · have hpI : ¬ (p : Int) < (n2 : Int) := by omega
                  go_wp2_with fail
                  refine bodyPost_ret (results_tmp rfl _ _ _) rfl ?_
                  exact ⟨rfl, HBW.out⟩
            · have HXQ : Hid (lits[q]? = some x ∧ (isL x = false ∨ -x ∈ T)) := ⟨hxq, hx⟩
              have hqlt : q < n2 := by rw [HN2.out]; exact (List.getElem?_eq_some_iff.1 hxq).1
              clear hxq hx
              go_wp2_with fail
              go_loopw [23] (fun i wr => ∃ (p : Nat), p ≤ q ∧ i = .int .i64 (p : Int) ∧ w7 = wr) (fun i wr => n2 - (intOf i).toNat)
              case atStart => exact ⟨0, Nat.zero_le _, rfl, rfl⟩
              case round =>
                obtain ⟨p, hp, rfl, rfl⟩ := hrel
                have hpI : (p : Int) < (n2 : Int) := by omega
                by_cases hpq : p < q
                · obtain ⟨y, hy⟩ : ∃ y, lits[p]? = some y := ⟨_, List.getElem?_eq_getElem (by rw [← HN2.out]; omega)⟩
                  obtain ⟨r2, o2, rfl, hr2, hc2⟩ := HCE.out p y hy
                  obtain ⟨hyT, hyn, hyL⟩ := HIN.out p y hpq hy
                  have HAY : Hid _ := HAS.out y
                  rw [decide_eq_true hyT] at HAY
                  have HAN : Hid _ := HAS.out (-y)
                  rw [decide_eq_false hyn] at HAN
                  have hys := isL_sm hyL
                  unfold sm at hys
                  unfold isL at hyL
                  simp at hyL
                  have hy0 : (y == 0) = false := by simp [hyL.1]
                  have hy1 : ¬ 65536 < y := by omega
                  have hy2 : ¬ y < -65536 := by omega
                  clear hy hyT hyn hyL
                  go_wp2_with fail
                  refine Calls.mono HAN.out ?_
                  rintro ev w9 ⟨rfl, rfl⟩
                  go_wp2_with fail
                  refine Calls.mono HAY.out ?_
                  rintro ev w9 ⟨rfl, rfl⟩
                  go_wp2_with fail
                  exact ⟨⟨p + 1, by omega, by go_num, by first | rfl | trivial⟩, by simp [intOf]; omega⟩
                · obtain rfl : p = q := by omega
                  obtain ⟨hxq, hx⟩ := HXQ.out
                  obtain ⟨r2, o2, rfl, hr2, hc2⟩ := HCE.out p x hxq
                  by_cases hz : x = 0
                  · subst hz
                    clear hxq hx
                    go_wp2_with fail
                    refine bodyPost_ret (results_tmp rfl _ _ _) rfl ?_
                    exact ⟨rfl, HBW.out⟩
                  have hx0 : (x == 0) = false := by simp [hz]
                  by_cases hx1 : 65536 < x
                  · clear hxq hx
                    go_wp2_with fail
                    refine bodyPost_ret (results_tmp rfl _ _ _) rfl ?_
                    exact ⟨rfl, HBW.out⟩
                  by_cases hx2 : x < -65536
                  · clear hxq hx
                    go_wp2_with fail
                    refine bodyPost_ret (results_tmp rfl _ _ _) rfl ?_
                    exact ⟨rfl, HBW.out⟩
                  have hxn : -x ∈ T := by
                    rcases hx with h | h
                    · exfalso
                      unfold isL at h
                      simp at h
                      have := h hz
                      omega
                    · exact h
                  have HAN : Hid _ := HAS.out (-x)
                  rw [decide_eq_true hxn] at HAN
                  clear hxq hx hxn
                  go_wp2_with fail
                  refine Calls.mono HAN.out ?_
                  rintro ev w9 ⟨rfl, rfl⟩
                  go_wp2_with fail
                  refine bodyPost_ret (results_tmp rfl _ _ _) rfl ?_
                  exact ⟨rfl, HBW.out⟩
end Go.Proofs.Ytcbkgnalfdoemaa
