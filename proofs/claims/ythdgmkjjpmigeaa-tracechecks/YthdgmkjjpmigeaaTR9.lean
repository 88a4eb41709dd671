/- Contracts (traces): Encode. -/
import Derived.Test.YthdgmkjjpmigeaaTR8
namespace Go.Proofs.Ythdgmkjjpmigeaa
open Go.RowKit
set_option linter.unusedSimpArgs false
set_option linter.unusedVariables false

def ebody (s : List Int) : List Int := be4 s.length ++ s.flatMap fun x => be4 x.toNat
/-- What Encode answers (of few numbers). -/
def encF (C : List (List Int)) : List Int × Int := if C.any (fun s => s.any noN) then ([], 120) else (hd ++ be4 C.length ++ C.flatMap ebody, 0)
theorem made_bytes (w : World) {z : Nat} (hz : z ≤ 1000000) : (Instr.makeSlice 23 (.int .i64 0) (.int .i64 (z : Int))).run Try.prog w = .ok (.slice (some ⟨w.heap.size, 0, none⟩) 0 z) (w.alloc (.cells (madeCells #[.int .u8 0] z) 5)) := by
  obtain ⟨i, hi, hz0, hz1, hz2⟩ := info_any infoByte
  have := run_make (P := Try.prog) w 23 5 i _ bytesUnder hi hz0 .i64 .i64 0 z (by omega) (by omega) (by rw [hz2]; omega) (by omega)
  simp only [Int.toNat_zero, Int.toNat_natCast, hz1, Nat.mul_one] at this
  exact this
theorem Bs.made (w : World) {z : Nat} (hz : z ≤ 1000000) : Bs (w.alloc (.cells (madeCells #[.int .u8 0] z) 5)) w.heap.size (.slice (some ⟨w.heap.size, 0, none⟩) 0 z) [] := by
  obtain ⟨c, h1, h2, h3⟩ := World.rowIs_made w (.int .u8 0) z 5
  exact ⟨⟨rfl, Or.inr ⟨w.heap.size, z, c, rfl, Nat.le_refl _, h1, Nat.zero_le _, by unfold maxLen; omega, by omega, by simp⟩⟩, fun x hx => nomatch hx⟩
theorem strCells_hd : Lib.strCells { data := #[80, 76, 84, 49] } = hd.map (Value.int .u8) := by rfl
theorem flat_take {α : Type} {C : List α} {k : Nat} {x : α} (f : α → List Int) (h : C[k]? = some x) : (C.take (k + 1)).flatMap f = (C.take k).flatMap f ++ f x := by
  rw [List.take_add_one, h]; simp
theorem flat_len (l : List Int) : (l.flatMap fun x => be4 x.toNat).length = 4 * l.length := by
  induction l with
  | nil => rfl
  | cons x l ih => rw [List.flatMap_cons, List.length_append, ih, List.length_cons]; simp [be4]; omega
theorem ebody_len (s : List Int) : (ebody s).length = 4 * (1 + s.length) := by
  unfold ebody; rw [List.length_append, flat_len]; simp [be4]; omega
theorem flatb_len (C : List (List Int)) : (C.flatMap ebody).length = 4 * (C.length + (C.map List.length).sum) := by
  induction C with
  | nil => rfl
  | cons x l ih => rw [List.flatMap_cons, List.length_append, ih, ebody_len]; simp; omega
theorem sum_le {C : List (List Int)} (k : Nat) : ((C.take k).map List.length).sum ≤ (C.map List.length).sum := by
  have e : C.map List.length = (C.take k).map List.length ++ (C.drop k).map List.length := by rw [← List.map_append, List.take_append_drop]
  rw [e, List.sum_append]; omega
set_option maxRecDepth 20000 in
set_option maxHeartbeats 12800000 in
theorem encode_any {w : World} {u : Value} {C : List (List Int)} (h : Lr w u C) (hs : C.length + (C.map List.length).sum ≤ 3000) :
    Calls Try.prog 12 #[u] w fun ev w' => ∃ v', ev = .returned (.tuple #[v', .int .i64 (encF C).2]) ∧ Br w' v' (encF C).1 ∧ Below w.heap.size w w' := by
  obtain ⟨ti, ht0, hz0, hz1, hz2⟩ := info_any infoByte
  have HI : Hid _ := (⟨ht0, hz0, hz1, hz2⟩ : Try.prog.info? 5 = some ti ∧ ti.zero = _ ∧ ti.size = 1 ∧ ti.bytes = 1)
  clear ht0 hz0 hz1 hz2
  obtain ⟨Z, hZ⟩ : ∃ Z, Z = encF C := ⟨_, rfl⟩
  rw [← hZ]
  have HZ : Hid _ := hZ
  have HC : Hid _ := h
  have HS : Hid (C.length + (C.map List.length).sum ≤ 3000) := hs
  obtain ⟨a, c, rfl⟩ := h.out
  obtain ⟨n, hn⟩ : ∃ n, n = C.length := ⟨_, rfl⟩
  rw [← hn] at HC ⊢
  have hnb : n ≤ 3000 := by omega
  have HN : Hid _ := hn
  clear h hZ hn hs
  go_enter Try.func12, Try.ntmps12
  go_wp2_with fail
  go_loopw [4, 14] (fun q i wr => ∃ k z : Nat, k ≤ n ∧ i = .int .i64 (k : Int) ∧ q = .int .i64 (z : Int) ∧ z ≤ 12008 ∧ Hid (z = 8 + 4 * (k + ((C.take k).map List.length).sum) ∧ (C.take k).any (fun s => s.any noN) = false ∧ Below w.heap.size w wr)) (fun q i wr => n - (intOf i).toNat)
  case atStart => exact ⟨0, 8, Nat.zero_le _, rfl, rfl, by decide, rfl, rfl, Below.refl _ _⟩
  case round =>
    obtain ⟨k, z, hk, rfl, rfl, hzb, hH⟩ := hrel
    by_cases hlt : k < n
    · have hltI : (k : Int) < (n : Int) := by omega
      obtain ⟨x, hx⟩ : ∃ x, C[k]? = some x := ⟨_, List.getElem?_eq_getElem (by rw [← HN.out]; exact hlt)⟩
      obtain ⟨r, o, us, rfl, hcu, hSr⟩ := (HC.out.below hH.out.2.2).at' hx
      have hro : r < wr.heap.size := World.block_lt_of_cell? _ _ hcu
      have HXL : Hid (8 + 4 * (k + ((C.take k).map List.length).sum) + 4 * (1 + x.length) ≤ 12008) := by
        have h1 := sum_take hx
        have h2 := sum_le (C := C) (k + 1)
        have := HS.out
        have := HN.out
        unfold Hid
        omega
      have HST : Hid _ := sum_take hx
      have HAN : Hid ((C.take (k + 1)).any (fun s => s.any noN) = ((C.take k).any (fun s => s.any noN) || x.any noN)) := by
        unfold Hid; rw [List.take_add_one, hx]; simp
      have HCF : Hid (∀ wx, Below wr.heap.size wr wx → Calls Try.prog 34 #[us, .func (.func 35) #[] #[]] wx fun e w' => e = .returned (.bool (x.any noN)) ∧ w' = wx) := fun wx hb => containsN_any (hSr.below hb) (by have := HXL.out; omega)
      have HMEM : Hid (x ∈ C) := List.mem_of_getElem? hx
      obtain ⟨au, cu, hue⟩ := hSr.out
      obtain ⟨nu, hnu⟩ : ∃ n, n = x.length := ⟨_, rfl⟩
      rw [← hnu] at hue
      subst hue
      have hnub : nu ≤ 3000 := by have := HXL.out; omega
      have HNU : Hid _ := hnu
      obtain ⟨b, hb⟩ : ∃ b, b = x.any noN := ⟨_, rfl⟩
      rw [← hb] at HCF HAN
      have HBB : Hid _ := hb
      clear hx hSr hnu hb
      go_wp2_with fail
      refine Calls.mono (HCF.out _ (by go_grown)) ?_
      rintro ev w2 ⟨rfl, hw2⟩
      rw [hw2]
      clear hw2 w2
      have HBG : Hid (∀ o : Obj, Below w.heap.size w (wr.alloc o)) := fun o => hH.out.2.2.alloc hH.out.2.2.size o
      cases b with
      | true =>
        have HZZ : Hid (Z = ([], 120)) := by
          unfold Hid
          rw [HZ.out]; unfold encF
          rw [if_pos (List.any_eq_true.2 ⟨x, HMEM.out, HBB.out.symm⟩)]
        go_wp2_with fail
        go_ret2
        rw [HZZ.out]
        exact ⟨_, rfl, ⟨⟨_, _, rfl, Nat.zero_le _, Or.inl rfl⟩, fun x hx => nomatch hx⟩, HBG.out _⟩
      | false =>
        go_wp2_with fail
        refine ⟨⟨k + 1, z + 4 * (1 + nu), by omega, by go_num, by go_num, ?_, ?_, ?_, HBG.out _⟩, by simp [intOf]; omega⟩
        · have := HXL.out; have := HNU.out; have := hH.out.1; omega
        · have := HST.out; have := HNU.out; have := hH.out.1; omega
        · rw [HAN.out, hH.out.2.1]; rfl
    · obtain rfl : k = n := by omega
      have hltI : ¬ (k : Int) < (k : Int) := by omega
      have HZZ : Hid (Z = (hd ++ be4 k ++ C.flatMap ebody, 0)) := by
        unfold Hid
        rw [HZ.out]; unfold encF
        have := hH.out.2.1
        rw [HN.out, List.take_length] at this
        rw [if_neg (by rw [this]; simp), HN.out]
      have hmk := fun wx => made_bytes wx (z := z) (by omega)
      have HBW : Hid (Below w.heap.size w wr) := hH.out.2.2
      have HM0 : Hid _ := Bs.made wr (z := z) (by omega)
      obtain ⟨wM, hwM⟩ : ∃ wM, wM = wr.alloc (.cells (madeCells #[.int .u8 0] z) 5) := ⟨_, rfl⟩
      have HMB : Hid (Below w.heap.size w wM) := by unfold Hid; rw [hwM]; exact HBW.out.alloc HBW.out.size _
      have HNOI : Hid (∀ x ∈ C, ∀ y ∈ x, 0 ≤ y ∧ y ≤ 2147483647) := fun x hx => by
        have := hH.out.2.1
        rw [HN.out, List.take_length] at this
        exact noN_pos (by have := List.any_eq_false.1 this x hx; simpa using this)
      clear hH
      go_wp2_with (at_builtin; refine Lib.wpList_append_own_string _ rfl _ _ 23 9 rfl w.heap.size 5 ti bytesUnder strUnder HI.out.1 HI.out.2.1 HI.out.2.2.1 HI.out.2.2.2 _ 0 [] rfl (own_mono HM0.out.row HBW.out.size) _ rfl (by unfold maxLen; decide) (by decide) (by have := HBW.out.size; rw [size_alloc']; omega) ?_; intro v1 w1 hown hgrow hnil)
      have HB1 : Hid (Bs w1 w.heap.size v1 hd ∧ Below w.heap.size w w1) := by
        refine ⟨⟨?_, fun x hx => by simp [hd] at hx; omega⟩, ?_⟩
        · have e : ([] : List Value) ++ Lib.strCells { data := #[80, 76, 84, 49] } = hd.map (Value.int .u8) := rfl
          rw [e] at hown
          exact hown
        · exact low_grown HBW.out HBW.out.size hgrow (fun q e => by
            have e2 : wr.heap.size = q := by injection e
            have := HBW.out.size
            omega)
      clear hown hgrow hnil hmk HM0 hwM HMB wM
      have HP1 : Hid _ := put_any HB1.out.1 HB1.out.2.size (by decide) (n := k) (by omega)
      refine Calls.mono HP1.out ?_
      rintro ev w2 ⟨v2, rfl, hB2, hb2⟩
      have HB2 : Hid (Bs w2 w.heap.size v2 (hd ++ be4 k) ∧ Below w.heap.size w w2) := ⟨hB2, HB1.out.2.trans (hb2.below (fun q e => (World.ownsRow.lt HB1.out.1.row q e).1) HB1.out.2.size)⟩
      obtain ⟨a2, c2, e2, -⟩ := hB2.br.out
      clear hB2 hb2 HP1 HB1 HBW
      obtain ⟨wQ, hwQ⟩ : ∃ wQ, wQ = wr := ⟨_, rfl⟩
      subst hwQ
      clear e2
      go_wp2_with fail
      go_loopw [7, 40] (fun q i wr => ∃ j : Nat, j ≤ k ∧ i = .int .i64 (j : Int) ∧ Hid (Bs wr w.heap.size q (hd ++ be4 k ++ (C.take j).flatMap ebody) ∧ Below w.heap.size w wr)) (fun q i wr => k - (intOf i).toNat)
      case atStart => exact ⟨0, Nat.zero_le _, rfl, by rw [List.take_zero, List.flatMap_nil, List.append_nil]; exact HB2.out.1, HB2.out.2⟩
      case round =>
        obtain ⟨j, hj, rfl, hJ⟩ := hrel
        obtain ⟨q, hqq⟩ : ∃ q, q = u7 := ⟨_, rfl⟩
        rw [← hqq] at hJ ⊢
        clear hqq
        by_cases hlt2 : j < k
        · have hltJ : (j : Int) < (k : Int) := by omega
          obtain ⟨x, hx⟩ : ∃ x, C[j]? = some x := ⟨_, List.getElem?_eq_getElem (by rw [← HN.out]; exact hlt2)⟩
          obtain ⟨r, o, us, rfl, hcu, hSr⟩ := (HC.out.below hJ.out.2).at' hx
          have hro : r < wr.heap.size := World.block_lt_of_cell? _ _ hcu
          have hSw : Sr w us x := HC.out.old hx hJ.out.2 hcu
          have HSW : Hid (Sr w us x) := hSw
          have HFT : Hid _ := flat_take ebody hx
          have HXN : Hid (∀ y ∈ x, 0 ≤ y ∧ y ≤ 2147483647) := HNOI.out x (List.mem_of_getElem? hx)
          obtain ⟨pre, hpre⟩ : ∃ pre, pre = hd ++ be4 k ++ (C.take j).flatMap ebody := ⟨_, rfl⟩
          have HPL : Hid (pre.length + 4 * (1 + x.length) ≤ 12008) := by
            have h1 := sum_take hx
            have h2 := sum_le (C := C) (j + 1)
            have h3 := flatb_len (C.take j)
            have h4 := HS.out
            have h5 := HN.out
            unfold Hid
            rw [hpre, List.length_append, List.length_append, h3, List.length_take]
            simp only [hd, be4, List.length_cons, List.length_nil]
            rw [Nat.min_eq_left (by omega)]
            omega
          rw [← hpre] at hJ
          have HPE : Hid _ := hpre
          have HZ0 : Hid (w.heap.size ≤ wr.heap.size) := hJ.out.2.size
          have HP2 : Hid (∀ wx, Below wr.heap.size wr wx → Calls Try.prog 36 #[q, .int .i64 (x.length : Int)] wx fun ev w' => ∃ v', ev = .returned v' ∧ Bs w' w.heap.size v' (pre ++ be4 x.length) ∧ Gw wx w' q v') := fun wx hb => put_any ⟨row_kept hJ.out.1.row hb.block, hJ.out.1.byte⟩ (Nat.le_trans HZ0.out hb.size) (by have := HPL.out; omega) (by have := HPL.out; omega)
          obtain ⟨au, cu, hue⟩ := hSr.out
          obtain ⟨nu, hnu⟩ : ∃ n, n = x.length := ⟨_, rfl⟩
          rw [← hnu] at hue HP2
          have hnub : nu ≤ 3002 := by have := HPL.out; omega
          have HNU : Hid _ := hnu
          subst hue
          clear hx hSr hSw hpre hnu
          go_wp2_with fail
          refine Calls.mono (HP2.out _ (by go_grown)) ?_
          rintro ev w3 ⟨v3, rfl, hB3, hb3⟩
          have HQL : Hid (∀ q', q.ownBlock = some q' → w.heap.size ≤ q' ∧ q' < wr.heap.size) := fun q' e => World.ownsRow.lt hJ.out.1.row q' e
          have hst : w3.cell? ⟨wr.heap.size, 0, none⟩ = some (.slice au nu cu) := by
            have h1 : w3.heap[wr.heap.size]? = some (.cells #[.slice au nu cu] 57) := (hb3.grown.block _ (by rw [size_alloc']; omega) (fun e => by have := (HQL.out _ e.symm).2; omega)).trans (heap_alloc_new wr _)
            exact cell_of h1 0 rfl
          have HB3 : Hid (Bs w3 w.heap.size v3 (pre ++ be4 nu) ∧ Below w.heap.size w w3) := ⟨hB3, (hJ.out.2.alloc HZ0.out _).trans (hb3.below (fun k e => (HQL.out k e).1) (by have := HZ0.out; rw [size_alloc']; omega))⟩
          clear hB3 hb3 HP2
          obtain ⟨wI, hwI⟩ : ∃ wI, wI = wr := ⟨_, rfl⟩
          subst hwI
          go_wp2_with fail
          go_loopw [7, 52] (fun q i wr => ∃ m : Nat, m ≤ nu ∧ i = .int .i64 (m : Int) ∧ Hid (Bs wr w.heap.size q (pre ++ be4 nu ++ (x.take m).flatMap fun x => be4 x.toNat) ∧ Below w.heap.size w wr)) (fun q i wr => nu - (intOf i).toNat)
          case atStart => exact ⟨0, Nat.zero_le _, rfl, by rw [List.take_zero, List.flatMap_nil, List.append_nil]; exact HB3.out.1, HB3.out.2⟩
          case round =>
            obtain ⟨m, hm, rfl, hK⟩ := hrel
            obtain ⟨q2, hqq⟩ : ∃ q, q = u7 := ⟨_, rfl⟩
            rw [← hqq] at hK ⊢
            clear hqq
            by_cases hlt3 : m < nu
            · have hltM : (m : Int) < (nu : Int) := by omega
              obtain ⟨r2, o2, rfl, hcm⟩ := HSW.out.at' hK.out.2 (k := m) (by rw [← HNU.out]; exact hlt3)
              obtain ⟨y, hy⟩ : ∃ y : Nat, x.getD m 0 = (y : Int) := ⟨(x.getD m 0).toNat, by have := HXN.out _ (getD_in (l := x) (j := m) (by rw [← HNU.out]; exact hlt3)); omega⟩
              have hyb : y ≤ 2147483647 := by have := HXN.out _ (getD_in (l := x) (j := m) (by rw [← HNU.out]; exact hlt3)); omega
              have hr2 : r2 < wr.heap.size := World.block_lt_of_cell? _ _ hcm
              have HFX : Hid ((x.take (m + 1)).flatMap (fun x => be4 x.toNat) = (x.take m).flatMap (fun x => be4 x.toNat) ++ be4 y) := by
                unfold Hid
                rw [flat_take _ (at_getD (l := x) (j := m) (by rw [← HNU.out]; exact hlt3)), hy]; simp
              rw [hy] at hcm
              have HP3 : Hid _ := put_any hK.out.1 hK.out.2.size (by
                rw [List.length_append, List.length_append, flat_len, List.length_take]
                have := HPL.out
                simp [be4]
                omega) (n := y) hyb
              clear hy
              go_wp2_with fail
              refine Calls.mono HP3.out ?_
              rintro ev w5 ⟨v5, rfl, hB5, hb5⟩
              have HB5 : Hid (Bs w5 w.heap.size v5 (pre ++ be4 nu ++ (x.take (m + 1)).flatMap fun x => be4 x.toNat) ∧ Below w.heap.size w w5) := by
                refine ⟨?_, hK.out.2.trans (hb5.below (fun k e => (World.ownsRow.lt hK.out.1.row k e).1) hK.out.2.size)⟩
                rw [HFX.out, ← List.append_assoc]; exact hB5
              clear hB5 hb5 HP3
              go_wp2_with fail
              refine ⟨⟨m + 1, by omega, by go_num, HB5.out⟩, by simp [intOf]; omega⟩
            · obtain rfl : m = nu := by omega
              have hltM : ¬ (m : Int) < (m : Int) := by omega
              have HE : Hid (Bs wr w.heap.size q2 (hd ++ be4 k ++ (C.take (j + 1)).flatMap ebody) ∧ Below w.heap.size w wr) := by
                refine ⟨?_, hK.out.2⟩
                have h1 := hK.out.1
                rw [HNU.out, List.take_length, HPE.out] at h1
                rw [HFT.out, ← List.append_assoc]
                unfold ebody
                rw [List.append_assoc] at h1
                exact h1
              go_wp2_with fail
              refine ⟨⟨j + 1, by omega, by go_num, HE.out⟩, by simp [intOf]; omega⟩
        · obtain rfl : j = k := by omega
          have hltJ : ¬ (j : Int) < (j : Int) := by omega
          have HE : Hid (Br wr q (hd ++ be4 j ++ C.flatMap ebody)) := by
            have := hJ.out.1
            rw [HN.out, List.take_length, ← HN.out] at this
            exact this.br
          go_wp2_with fail
          go_ret2
          rw [HZZ.out]
          exact ⟨_, rfl, HE.out, hJ.out.2⟩
end Go.Proofs.Ythdgmkjjpmigeaa
