/- Contracts (the document's traces): put, Encode. -/
import Derived.Test.YthdgmkjjpmigeaaTS1
namespace Go.Proofs.Ythdgmkjjpmigeaa
open Go.RowKit
set_option linter.unusedSimpArgs false
set_option linter.unusedVariables false

theorem cells_new (w : World) (us : List Value) (t : TypeId) : ∀ j u, us[j]? = some u → (w.alloc (.cells us.toArray t)).cell? ((⟨w.heap.size, 0, none⟩ : Addr).add j) = some u := by
  intro j u hj
  have e : (⟨w.heap.size, 0, none⟩ : Addr).add j = ⟨w.heap.size, 0 + j, none⟩ := by by_cases hj0 : j = 0 <;> simp [Addr.add, hj0]
  rw [e, Nat.zero_add]
  exact cell_of (heap_alloc_new w _) j (by simpa using hj)
theorem Bs.four {w2 : World} {B : Nat} {v' : Value} {l : List Int} {m n : Nat} {a b c d : Int} (hm : m = l.length) (hl : byts l) (ha : a = ((n / 16777216 % 256 : Nat) : Int)) (hb : b = ((n / 65536 % 256 : Nat) : Int)) (hc : c = ((n / 256 % 256 : Nat) : Int)) (hd' : d = ((n % 256 : Nat) : Int)) (hrow : w2.ownsRow B 5 1 v' (m + 4) (l.map (Value.int .u8) ++ [.int .u8 a, .int .u8 b, .int .u8 c, .int .u8 d])) : Bs w2 B v' (l ++ be4 n) := by
  subst ha hb hc hd' hm
  refine ⟨?_, byts_app hl (be4_byts n)⟩
  rw [List.length_append, List.map_append]
  exact hrow
set_option maxHeartbeats 3200000 in
theorem rput_any {w : World} {B : Nat} {v : Value} {l : List Int} (h : Bs w B v l) (hB : B ≤ w.heap.size) (hl : l.length ≤ 100000) {n : Nat} (hn : n ≤ 2147483647) :
    Calls Try.prog 37 #[v, .int .i64 (n : Int)] w fun ev w' => ∃ v', ev = .returned v' ∧ Bs w' B v' (l ++ be4 n) ∧ Gw w w' v v' := by
  obtain ⟨ti, ht0, hz0, hz1, hz2⟩ := info_any infoByte
  have HI : Hid _ := (⟨ht0, hz0, hz1, hz2⟩ : Try.prog.info? 5 = some ti ∧ ti.zero = _ ∧ ti.size = 1 ∧ ti.bytes = 1)
  clear ht0 hz0 hz1 hz2
  obtain ⟨m, hm⟩ : ∃ m, m = l.length := ⟨_, rfl⟩
  have HM : Hid (m = l.length ∧ byts l) := ⟨hm, h.byte⟩
  have HROW : Hid (w.ownsRow B 5 1 v m (l.map (Value.int .u8))) := by unfold Hid; rw [hm]; exact h.row
  rw [← hm] at hl
  clear h hm
  go_enter Try.func37, Try.ntmps37
  go_wp2_with (at_builtin; refine wpList_append_own_at _ rfl _ _ 23 rfl B 5 ti (.int .u8 0) 1 1 bytesUnder HI.out.1 HI.out.2.1 HI.out.2.2.1 HI.out.2.2.2 rfl (by decide) v m _ rfl (row_kept HROW.out (fun _ hq => heap_alloc_old _ _ hq)) ⟨w.heap.size, 0, none⟩ 4 4 [_, _, _, _] rfl rfl (cells_new _ _ _) (by intro y hy; simp only [List.mem_cons, List.not_mem_nil, or_false] at hy; rcases hy with e | e | e | e <;> rw [e] <;> rfl) (by unfold maxLen; omega) (by omega) (by rw [size_alloc']; omega) ?_; intro v4 w4 hown hgrow hnil hat)
  go_ret
  refine ⟨v4, rfl, Bs.four HM.out.1 HM.out.2 ?_ ?_ ?_ ?_ hown, (Gw.refl w v).step hgrow hat⟩ <;> first | omega | (simp [IntKind.wrap, IntKind.signed, IntKind.bits]; omega)
theorem hd_row (w : World) : Bs (w.alloc (.cells #[.int .u8 80, .int .u8 76, .int .u8 84, .int .u8 49] 5)) w.heap.size (.slice (some ⟨w.heap.size, 0, none⟩) 4 4) hd :=
  ⟨⟨rfl, Or.inr ⟨w.heap.size, 4, #[.int .u8 80, .int .u8 76, .int .u8 84, .int .u8 49], rfl, Nat.le_refl _, heap_alloc_new w _, Nat.le_refl _, by decide, rfl, rfl⟩⟩, fun x hx => by simp [hd] at hx; omega⟩
theorem any_take {x : List Int} {j : Nat} {y : Int} (h : x[j]? = some y) : (x.take (j + 1)).any noN = ((x.take j).any noN || noN y) := by rw [List.take_add_one, h]; simp
theorem any_takes {C : List (List Int)} {k : Nat} {x : List Int} (h : C[k]? = some x) : (C.take (k + 1)).any (fun s => s.any noN) = ((C.take k).any (fun s => s.any noN) || x.any noN) := by rw [List.take_add_one, h]; simp
theorem enc_no {C : List (List Int)} {x : List Int} {y : Int} (hx : x ∈ C) (hy : y ∈ x) (h : noN y = true) : encF C = ([], 120) := by
  unfold encF; rw [if_pos (List.any_eq_true.2 ⟨x, hx, List.any_eq_true.2 ⟨y, hy, h⟩⟩)]
theorem flat1_take {x : List Int} {j : Nat} {y : Int} (h : x[j]? = some y) : (x.take (j + 1)).flatMap (fun x => be4 x.toNat) = (x.take j).flatMap (fun x => be4 x.toNat) ++ be4 y.toNat := by rw [List.take_add_one, h]; simp
theorem Br.nil (w : World) : Br w (.slice none 0 0) [] := ⟨⟨_, _, rfl, Nat.zero_le _, Or.inl rfl⟩, fun x hx => nomatch hx⟩
set_option maxRecDepth 20000 in
set_option maxHeartbeats 12800000 in
theorem rencode_any {w : World} {u : Value} {C : List (List Int)} (h : Lr w u C) (hs : C.length + (C.map List.length).sum ≤ 3000) (hw : ∀ c ∈ C, ∀ y ∈ c, w64 y) :
    Calls Try.prog 13 #[u] w fun ev w' => ∃ v', ev = .returned (.tuple #[v', .int .i64 (encF C).2]) ∧ Br w' v' (encF C).1 ∧ Below w.heap.size w w' := by
  obtain ⟨Z, hZ⟩ : ∃ Z, Z = encF C := ⟨_, rfl⟩
  rw [← hZ]
  have HZ : Hid (Z = encF C) := hZ
  have HC : Hid _ := h
  have HS : Hid (C.length + (C.map List.length).sum ≤ 3000 ∧ ∀ c ∈ C, ∀ y ∈ c, w64 y) := ⟨hs, hw⟩
  obtain ⟨a, c, rfl⟩ := h.out
  obtain ⟨n, hn⟩ : ∃ n, n = C.length := ⟨_, rfl⟩
  rw [← hn] at HC ⊢
  have hnb : n ≤ 3000 := by omega
  have HN : Hid (n = C.length) := hn
  have HB0 : Hid (Below w.heap.size w (w.alloc (.cells #[.int .u8 80, .int .u8 76, .int .u8 84, .int .u8 49] 5))) := below_alloc _ _
  have HP1 : Hid _ := rput_any (hd_row w) (by rw [size_alloc']; omega) (by decide) (n := n) (by omega)
  clear h hZ hn hs hw
  go_enter Try.func13, Try.ntmps13
  go_wp2_with fail
  refine Calls.mono HP1.out ?_
  rintro ev w2 ⟨v2, rfl, hB2, hg2⟩
  have HB2 : Hid (Bs w2 w.heap.size v2 (hd ++ be4 n)) := hB2
  have HBW : Hid (Below w.heap.size w w2) := HB0.out.trans (hg2.below (B := w.heap.size) (fun q e => (World.ownsRow.lt (hd_row w).row q e).1) (by rw [size_alloc']; omega))
  clear hB2 hg2 HP1 HB0
  go_wp2_with fail
  go_loopw [5, 6] (fun q i wr => ∃ k z : Nat, k ≤ n ∧ i = .int .i64 (k : Int) ∧ q = .int .i64 (z : Int) ∧ z ≤ 20008 ∧ Hid (z = 8 + 4 * n + 4 * ((C.take k).map List.length).sum ∧ (C.take k).any (fun s => s.any noN) = false) ∧ w2 = wr) (fun q i wr => n - (intOf i).toNat)
  case atStart => exact ⟨0, 8 + 4 * n, Nat.zero_le _, rfl, by go_num, by omega, ⟨by simp, rfl⟩, rfl⟩
  case round =>
    obtain ⟨k, z, hk, rfl, rfl, hzb, hH, rfl⟩ := hrel
    by_cases hlt : k < n
    · have hltI : (k : Int) < (n : Int) := by omega
      obtain ⟨x, hx⟩ : ∃ x, C[k]? = some x := ⟨_, List.getElem?_eq_getElem (by rw [← HN.out]; exact hlt)⟩
      obtain ⟨r, o, us, rfl, hcu, hSr⟩ := (HC.out.below HBW.out).at' hx
      have hro : r < w2.heap.size := World.block_lt_of_cell? _ _ hcu
      have HXL : Hid (8 + 4 * n + 4 * ((C.take (k + 1)).map List.length).sum ≤ 20008 ∧ x.length ≤ 3000) := by
        have h2 := sum_le (C := C) (k + 1)
        have h3 := len_sum (List.mem_of_getElem? hx)
        have := HS.out.1
        have := HN.out
        exact ⟨by omega, by omega⟩
      have HST : Hid _ := sum_take hx
      have HAN : Hid _ := any_takes hx
      have HMEM : Hid (x ∈ C) := List.mem_of_getElem? hx
      have HSR : Hid (Sr w2 us x) := hSr
      obtain ⟨au, nu, cu, hue, hnu⟩ := hSr.sl
      subst hue
      have HNU : Hid (nu = x.length) := hnu
      have hnub : nu ≤ 3000 := by rw [HNU.out]; exact HXL.out.2
      clear hx hSr hnu
      go_wp2_with fail
      go_loopw [7] (fun i wr => ∃ j : Nat, j ≤ nu ∧ i = .int .i64 (j : Int) ∧ Hid ((x.take j).any noN = false) ∧ w2 = wr) (fun i wr => nu - (intOf i).toNat)
      case atStart => exact ⟨0, Nat.zero_le _, rfl, rfl, rfl⟩
      case round =>
        obtain ⟨j, hj, rfl, hJ, rfl⟩ := hrel
        by_cases hlt2 : j < nu
        · have hltJ : (j : Int) < (nu : Int) := by omega
          obtain ⟨y, hy⟩ : ∃ y, x[j]? = some y := ⟨_, List.getElem?_eq_getElem (by rw [← HNU.out]; exact hlt2)⟩
          obtain ⟨r', o', rfl, hcy⟩ := HSR.out.at' (Below.refl _ _) (k := j) (by rw [← HNU.out]; exact hlt2)
          rw [getD_at hy] at hcy
          have hro2 : r' < w2.heap.size := World.block_lt_of_cell? _ _ hcy
          have HAT : Hid _ := any_take hy
          have HYM : Hid (noN y = true → Z = ([], 120)) := fun e => by rw [HZ.out]; exact enc_no HMEM.out (List.mem_of_getElem? hy) e
          clear hy
          by_cases hy0 : y < 0
          · have HZZ : Hid (Z = ([], 120)) := HYM.out (by unfold noN; simp [hy0])
            have hyd : decide (y < 0) = true := decide_eq_true hy0
            go_wp2_with fail
            go_ret2
            rw [HZZ.out]
            exact ⟨_, rfl, Br.nil _, HBW.out⟩
          have hyd : decide (y < 0) = false := decide_eq_false hy0
          by_cases hy1 : 2147483647 < y
          · have HZZ : Hid (Z = ([], 120)) := HYM.out (by unfold noN; simp [hy1])
            have hye : decide (2147483647 < y) = true := decide_eq_true hy1
            go_wp2_with fail
            go_ret2
            rw [HZZ.out]
            exact ⟨_, rfl, Br.nil _, HBW.out⟩
          have hye : decide (2147483647 < y) = false := decide_eq_false hy1
          have HJ2 : Hid ((x.take (j + 1)).any noN = false) := by
            unfold Hid; rw [HAT.out, hJ.out]; unfold noN; rw [hyd, hye]; rfl
          go_wp2_with fail
          exact ⟨⟨j + 1, by omega, by go_num, HJ2.out, by first | rfl | trivial⟩, by simp [intOf]; omega⟩
        · obtain rfl : j = nu := by omega
          have hltJ : ¬ (j : Int) < (j : Int) := by omega
          have HJ2 : Hid ((C.take (k + 1)).any (fun s => s.any noN) = false) := by
            have h1 := hJ.out
            rw [HNU.out, List.take_length] at h1
            unfold Hid; rw [HAN.out, hH.out.2, h1]; rfl
          go_wp2_with fail
          refine ⟨⟨k + 1, z + 4 * j, by omega, by go_num, by go_num, ?_, ⟨?_, HJ2.out⟩, by first | rfl | trivial⟩, by simp [intOf]; omega⟩
          · have h1 := HST.out; have h2 := HXL.out.1; have h3 := HNU.out; have h4 := hH.out.1; omega
          · have h1 := HST.out; have h3 := HNU.out; have h4 := hH.out.1; omega
    · obtain rfl : k = n := by omega
      have hltI : ¬ (k : Int) < (k : Int) := by omega
      have hzI : ¬ (4194304 : Int) < (z : Int) := by omega
      have HNOI : Hid (∀ x ∈ C, ∀ y ∈ x, 0 ≤ y ∧ y ≤ 2147483647) := fun x hx => by
        have := hH.out.2
        rw [HN.out, List.take_length] at this
        exact noN_pos (by have := List.any_eq_false.1 this x hx; simpa using this)
      have HZZ : Hid (Z = (hd ++ be4 k ++ C.flatMap ebody, 0)) := by
        unfold Hid
        rw [HZ.out]; unfold encF
        have := hH.out.2
        rw [HN.out, List.take_length] at this
        rw [if_neg (by rw [this]; simp), HN.out]
      clear hH
      go_wp2_with fail
      go_loopw [4, 8] (fun q i wr => ∃ j : Nat, j ≤ k ∧ i = .int .i64 (j : Int) ∧ Hid (Bs wr w.heap.size q (hd ++ be4 k ++ (C.take j).flatMap ebody) ∧ Below w.heap.size w wr)) (fun q i wr => k - (intOf i).toNat)
      case atStart => exact ⟨0, Nat.zero_le _, rfl, by rw [List.take_zero, List.flatMap_nil, List.append_nil]; exact HB2.out, HBW.out⟩
      case round =>
        obtain ⟨j, hj, rfl, hJ⟩ := hrel
        obtain ⟨q, hqq⟩ : ∃ q, q = u4 := ⟨_, rfl⟩
        rw [← hqq] at hJ ⊢
        clear hqq
        by_cases hlt2 : j < k
        · have hltJ : (j : Int) < (k : Int) := by omega
          obtain ⟨x, hx⟩ : ∃ x, C[j]? = some x := ⟨_, List.getElem?_eq_getElem (by rw [← HN.out]; exact hlt2)⟩
          obtain ⟨r, o, us, rfl, hcu, hSr⟩ := (HC.out.below hJ.out.2).at' hx
          have hro : r < wr.heap.size := World.block_lt_of_cell? _ _ hcu
          have HCW : Hid (w.cell? ⟨r, o + j, none⟩ = some us ∧ Sr w us x) := by
            obtain ⟨r', o', u', e1, e2, -⟩ := HC.out.at' hx
            injection e1 with e1; injection e1 with e3 e4; subst e3 e4
            have := bel_cell hJ.out.2 (World.block_lt_of_cell? _ _ e2) e2
            rw [hcu] at this; injection this with this
            exact ⟨by rw [this]; exact e2, HC.out.old hx hJ.out.2 hcu⟩
          have HFT : Hid _ := flat_take ebody hx
          have HXN : Hid (∀ y ∈ x, 0 ≤ y ∧ y ≤ 2147483647) := HNOI.out x (List.mem_of_getElem? hx)
          obtain ⟨pre, hpre⟩ : ∃ pre, pre = hd ++ be4 k ++ (C.take j).flatMap ebody := ⟨_, rfl⟩
          have HPL : Hid (pre.length + 4 * (1 + x.length) ≤ 12008) := by
            have h1 := sum_take hx
            have h2 := sum_le (C := C) (j + 1)
            have h3 := flatb_len (C.take j)
            have h4 := HS.out.1
            have h5 := HN.out
            unfold Hid
            rw [hpre, List.length_append, List.length_append, h3, List.length_take]
            simp only [hd, be4, List.length_cons, List.length_nil]
            rw [Nat.min_eq_left (by omega)]
            omega
          rw [← hpre] at hJ
          have HPE : Hid (pre = hd ++ be4 k ++ (C.take j).flatMap ebody) := hpre
          obtain ⟨au, nu, cu, hue, hnu⟩ := hSr.sl
          subst hue
          have HNU : Hid (nu = x.length) := hnu
          have hnub : nu ≤ 3002 := by have := HPL.out; rw [HNU.out]; omega
          have HP2 : Hid _ := rput_any hJ.out.1 hJ.out.2.size (by have := HPL.out; omega) (n := nu) (by omega)
          clear hx hSr hpre hnu
          go_wp2_with fail
          refine Calls.mono HP2.out ?_
          rintro ev w3 ⟨v3, rfl, hB3, hg3⟩
          have HB3 : Hid (Bs w3 w.heap.size v3 (pre ++ be4 nu) ∧ Below w.heap.size w w3) := ⟨hB3, hJ.out.2.trans (hg3.below (fun q e => (World.ownsRow.lt hJ.out.1.row q e).1) hJ.out.2.size)⟩
          clear hB3 hg3 HP2 hcu hro
          go_wp2_with fail
          go_loopw [4, 9] (fun q i wr => ∃ t : Nat, t ≤ nu ∧ i = .int .i64 (t : Int) ∧ Hid (Bs wr w.heap.size q (pre ++ be4 nu ++ (x.take t).flatMap fun x => be4 x.toNat) ∧ Below w.heap.size w wr)) (fun q i wr => nu - (intOf i).toNat)
          case atStart => exact ⟨0, Nat.zero_le _, rfl, by rw [List.take_zero, List.flatMap_nil, List.append_nil]; exact HB3.out.1, HB3.out.2⟩
          case round =>
            obtain ⟨t, ht, rfl, hT⟩ := hrel
            obtain ⟨q2, hqq⟩ : ∃ q, q = u4 := ⟨_, rfl⟩
            rw [← hqq] at hT ⊢
            clear hqq
            have hcu1 : wr.cell? ⟨r, o + j, none⟩ = some (.slice au nu cu) := bel_cell hT.out.2 (World.block_lt_of_cell? _ _ HCW.out.1) HCW.out.1
            have hro1 : r < wr.heap.size := World.block_lt_of_cell? _ _ hcu1
            by_cases hlt3 : t < nu
            · have hltT : (t : Int) < (nu : Int) := by omega
              obtain ⟨y, hy⟩ : ∃ y, x[t]? = some y := ⟨_, List.getElem?_eq_getElem (by rw [← HNU.out]; exact hlt3)⟩
              obtain ⟨r', o', rfl, hcy⟩ := HCW.out.2.at' hT.out.2 (k := t) (by rw [← HNU.out]; exact hlt3)
              rw [getD_at hy] at hcy
              have hro2 : r' < wr.heap.size := World.block_lt_of_cell? _ _ hcy
              obtain ⟨hy0, hy1⟩ := HXN.out y (List.mem_of_getElem? hy)
              obtain ⟨Y, rfl⟩ : ∃ Y : Nat, y = (Y : Int) := ⟨y.toNat, by omega⟩
              have HFY : Hid ((x.take (t + 1)).flatMap (fun x => be4 x.toNat) = (x.take t).flatMap (fun x => be4 x.toNat) ++ be4 Y) := by
                have := flat1_take hy
                rwa [Int.toNat_natCast] at this
              obtain ⟨pr2, hpr2⟩ : ∃ p, p = pre ++ be4 nu ++ (x.take t).flatMap fun x => be4 x.toNat := ⟨_, rfl⟩
              rw [← hpr2] at hT
              have HPR : Hid (pr2 = pre ++ be4 nu ++ (x.take t).flatMap fun x => be4 x.toNat) := hpr2
              have HP3 : Hid _ := rput_any hT.out.1 hT.out.2.size (by
                rw [hpr2, List.length_append, List.length_append, flat_len, List.length_take, be4_len]; have := HPL.out; have := HNU.out; omega) (n := Y) (by omega)
              clear hy hpr2
              go_wp2_with fail
              refine Calls.mono HP3.out ?_
              rintro ev w4 ⟨v4, rfl, hB4, hg4⟩
              have HB4 : Hid (Bs w4 w.heap.size v4 (pr2 ++ be4 Y) ∧ Below w.heap.size w w4) := ⟨hB4, hT.out.2.trans (hg4.below (fun q e => (World.ownsRow.lt hT.out.1.row q e).1) hT.out.2.size)⟩
              clear hB4 hg4 HP3
              go_wp2_with fail
              exact ⟨⟨t + 1, by omega, by go_num, by rw [HFY.out, ← List.append_assoc, ← HPR.out]; exact HB4.out.1, HB4.out.2⟩, by simp [intOf]; omega⟩
            · obtain rfl : t = nu := by omega
              have hltT : ¬ (t : Int) < (t : Int) := by omega
              have HE : Hid (Bs wr w.heap.size q2 (hd ++ be4 k ++ (C.take (j + 1)).flatMap ebody) ∧ Below w.heap.size w wr) := by
                refine ⟨?_, hT.out.2⟩
                have h1 := hT.out.1
                rw [HNU.out, List.take_length] at h1
                rw [HFT.out, ← List.append_assoc, ← HPE.out]
                unfold ebody
                rw [← List.append_assoc]
                exact h1
              go_wp2_with fail
              exact ⟨⟨j + 1, by omega, by go_num, HE.out.1, HE.out.2⟩, by simp [intOf]; omega⟩
        · obtain rfl : j = k := by omega
          have hltJ : ¬ (j : Int) < (j : Int) := by omega
          have HE : Hid (Br wr q (hd ++ be4 j ++ C.flatMap ebody) ∧ Below w.heap.size w wr) := by
            refine ⟨?_, hJ.out.2⟩
            have h1 := hJ.out.1
            have e : (C.take j).flatMap ebody = C.flatMap ebody := by rw [HN.out, List.take_length]
            rw [e] at h1
            exact h1.br
          clear hJ
          go_wp2_with fail
          go_ret2
          rw [HZZ.out]
          exact ⟨_, rfl, HE.out.1, HE.out.2⟩
end Go.Proofs.Ythdgmkjjpmigeaa
