/- Contracts (the laws): StoreChain. -/
import Derived.Test.YtcbkgnalfdoemaaST44
namespace Go.Proofs.Ytcbkgnalfdoemaa
open Go.RowKit
set_option linter.unusedSimpArgs false
set_option linter.unusedVariables false

theorem Sf.cell {w : World} {F : Nat → Prop} {a : Option Addr} {n c : Nat} {T : List Int} (h : Sf w F (.slice a n c) T) {k : Nat} {x : Int} (hx : T[k]? = some x) : ∃ r o, a = some ⟨r, o, none⟩ ∧ r < w.heap.size ∧ w.cell? ⟨r, o + k, none⟩ = some (.int .i64 x) := by
  obtain ⟨a', c', e, h2⟩ := h.ex
  injection e with e1 e2 e3
  rcases h2 with h2 | ⟨r, o, h3, h4, -, h5⟩
  · rw [h2] at hx; cases hx
  · refine ⟨r, o, e1.trans h3, h4, ?_⟩
    have := h5 k (List.getElem?_eq_some_iff.1 hx).1
    rw [List.getD_eq_getElem?_getD, hx] at this
    exact this
set_option maxRecDepth 20000 in
set_option maxHeartbeats 3200000 in
theorem chain_any (n0 s0 : Int) (_ : (Lit.int .i64 n0).wf = true) (_ : (Lit.int .i64 s0).wf = true) (w : World) :
    Calls Try.prog 7 #[.int .i64 n0, .int .i64 s0] w fun ev w' => ev = .returned (.bool true) ∧ Below w.heap.size w w' := by
  have HKN : Hid _ := known_any w
  go_enter Try.func7, Try.ntmps7
  go_wp2_with fail
  refine Calls.mono HKN.out ?_
  rintro ev w1 ⟨rfl, hb1⟩
  have HB1 : Hid (Below w.heap.size w w1) := hb1
  have HP1 : Hid _ := place_any (k := n0) (n := 2000) (by decide) (by decide) w1
  have HP2 : Hid _ := place_any (k := s0) (n := 50) (by decide) (by decide) w1
  obtain ⟨m, hm⟩ : ∃ m : Nat, n0 % 2000 = (m : Int) := ⟨(n0 % 2000).toNat, by omega⟩
  obtain ⟨q, hq⟩ : ∃ q : Nat, s0 % 50 = (q : Int) := ⟨(s0 % 50).toNat, by omega⟩
  have hmb : m < 2000 := by omega
  have hqb : q < 50 := by omega
  rw [hm] at HP1
  rw [hq] at HP2
  clear hb1 HKN hm hq
  go_wp2_with fail
  refine Calls.mono HP1.out ?_
  rintro ev w2 ⟨rfl, rfl⟩
  go_wp2_with fail
  refine Calls.mono HP2.out ?_
  rintro ev w3 ⟨rfl, rfl⟩
  have HNW : Hid _ := snew_any 262144 w3
  have e262 : roomOf 262144 = 262144 := rfl
  rw [e262] at HNW
  clear e262 HP1 HP2
  go_wp2_with fail
  refine Calls.mono HNW.out ?_
  rintro ev w4 ⟨rfl, hb4, hz4, hX4⟩
  obtain ⟨F4, HK4⟩ : ∃ F4, Hid (Kn w3 w4 F4 (w3.heap.size + 1) 262144 []) := ⟨_, so_new (most := 262144) hX4, hb4, fun k hk => hk.1⟩
  obtain ⟨s, hs⟩ : ∃ s, s = w3.heap.size + 1 := ⟨_, rfl⟩
  rw [← hs] at HK4 ⊢
  clear hb4 hz4 hX4 hs HNW
  go_wp2_with fail
  go_loopw [6] (fun f wr => ∃ (k : Nat) (F : Nat → Prop) (C : List (List Int)), k ≤ 1 + q ∧ f = .int .i64 (k : Int) ∧ Hid (Kn w3 wr F s 262144 C ∧ Chp (2 + m) (1 + q) k 0 C)) (fun f wr => 1 + q - (intOf f).toNat)
  case atStart => exact ⟨0, F4, [], Nat.zero_le _, rfl, HK4.out, Chp.start _ _⟩
  case round =>
    obtain ⟨k, F, C, hk, rfl, hH⟩ := hrel
    by_cases hlt : k < 1 + q
    · have hltI : (k : Int) < 1 + (q : Int) := by omega
      go_wp2_with fail
      go_loopw [7] (fun i wr => ∃ (b : Nat) (F : Nat → Prop) (C : List (List Int)), i = .int .i64 ((b : Int) + 1) ∧ b ≤ 3000 ∧ Hid (Kn w3 wr F s 262144 C ∧ Chp (2 + m) (1 + q) k b C ∧ b % (1 + q) = k)) (fun i wr => (5000 - intOf i).toNat)
      case atStart => exact ⟨k, F, C, by go_num, by omega, hH.out.1, hH.out.2.into (b := 0), Nat.mod_eq_of_lt hlt⟩
      case round =>
        obtain ⟨b, F2, C2, rfl, hb, hH2⟩ := hrel
        by_cases hbn : b + 1 < 2 + m
        · have hbI : (b : Int) + 1 < 2 + (m : Int) := by omega
          have HAD : Hid _ := kn_add hH2.out.1 (pr b) (by simp) (addF_pair (a := b) (by omega) (by have := hH2.out.2.1.ar; have := hH2.out.2.1.len; omega))
          go_wp2_with fail
          refine Calls.mono HAD.out ?_
          rintro ev w5 ⟨rfl, F5, hK5, -⟩
          have HK5 : Hid _ := hK5
          clear hK5 HAD
          go_wp2_with fail
          refine ⟨⟨b + (1 + q), F5, C2 ++ [pr b], by go_num, by omega, HK5.out, hH2.out.2.1.next hH2.out.2.2 hbn (by omega), by rw [Nat.add_mod_right]; exact hH2.out.2.2⟩, ?_⟩
          simp [intOf]; omega
        · have hbI : ¬ (b : Int) + 1 < 2 + (m : Int) := by omega
          go_wp2_with fail
          exact ⟨⟨k + 1, F2, C2, by omega, by go_num, hH2.out.1, hH2.out.2.1.out (by omega)⟩, by simp [intOf]; omega⟩
    · obtain rfl : k = 1 + q := by omega
      have hltI : ¬ ((1 + q : Nat) : Int) < 1 + (q : Int) := by omega
      go_wp2_with fail
      have e2m : ((2 + m : Nat) : Int) = 2 + (m : Int) := by omega
      have hch : Chn (2 + (m : Int)) C := by rw [← e2m]; exact hH.out.2.done (by omega)
      have HCH : Hid (Chn (2 + (m : Int)) C) := hch
      have HAR : Hid (((ar C).length : Int) = 4 * (2 + (m : Int) - 1)) := by
        have h1 := hH.out.2.ar
        have h2 := hH.out.2.full (by omega)
        show ((ar C).length : Int) = 4 * (2 + (m : Int) - 1)
        omega
      clear e2m hch
      refine Calls.mono (kn_fol hH.out.1 [1] (by decide)) ?_
      rintro ev w5 ⟨v1, r1, T1, rfl, hR1, F5, hK5, -, hv1⟩
      obtain ⟨rfl, hl1, hT1⟩ := chain_up HCH.out (by omega) hR1
      have HK5 : Hid (Kn w3 w5 F5 s 262144 C) := hK5
      have HV5 : Hid (Sf w5 F5 v1 T1) := hv1
      have HT1 : Hid (∀ (i : Nat) x, T1[i]? = some x → x = (i : Int) + 1) := hT1
      obtain ⟨a1, c1, hv1e⟩ := hv1.sr.out
      obtain ⟨n1, hn1⟩ : ∃ n, n = T1.length := ⟨_, rfl⟩
      rw [← hn1] at hv1e hl1
      have HN1 : Hid (n1 = T1.length) := hn1
      subst hv1e
      clear hK5 hv1 hR1 hT1 hn1
      go_wp2_with fail
      refine Calls.mono (kn_fol HK5.out [-(2 + (m : Int))] (by simp)) ?_
      rintro ev w6 ⟨v2, r2, T2, rfl, hR2, F6, hK6, hC6, hv2⟩
      obtain ⟨rfl, hl2, hT2⟩ := chain_down HCH.out (by omega) (by omega) hR2
      have HK6 : Hid (Kn w3 w6 F6 s 262144 C) := hK6
      have HV6 : Hid (Sf w6 F6 (.slice a1 n1 c1) T1 ∧ Sf w6 F6 v2 T2) := ⟨HV5.out.ch hC6, hv2⟩
      have HT2 : Hid (∀ (i : Nat) x, T2[i]? = some x → x = (i : Int) - (2 + (m : Int))) := hT2
      obtain ⟨a2, c2, hv2e⟩ := hv2.sr.out
      obtain ⟨n2, hn2⟩ : ∃ n, n = T2.length := ⟨_, rfl⟩
      rw [← hn2] at hv2e hl2
      have HN2 : Hid (n2 = T2.length) := hn2
      subst hv2e
      clear hK6 hv2 hR2 hT2 hn2 hC6
      go_wp2_with fail
      go_loopw [14] (fun i wr => ∃ (k : Nat), k ≤ 2 + m ∧ i = .int .i64 (k : Int) ∧ w6 = wr) (fun i wr => 2 + m - (intOf i).toNat)
      case atStart => exact ⟨0, Nat.zero_le _, rfl, rfl⟩
      case round =>
        obtain ⟨k, hk, rfl, rfl⟩ := hrel
        by_cases hlt : k < 2 + m
        · have hltI2 : (k : Int) < 2 + (m : Int) := by omega
          have hk1 : k < n1 := by omega
          have hk2 : k < n2 := by omega
          obtain ⟨x1, hx1⟩ : ∃ x, T1[k]? = some x := ⟨_, List.getElem?_eq_getElem (by rw [← HN1.out]; exact hk1)⟩
          obtain ⟨x2, hx2⟩ : ∃ x, T2[k]? = some x := ⟨_, List.getElem?_eq_getElem (by rw [← HN2.out]; exact hk2)⟩
          obtain ⟨r3, o3, rfl, hr3, hc3⟩ := HV6.out.1.cell hx1
          obtain ⟨r4, o4, rfl, hr4, hc4⟩ := HV6.out.2.cell hx2
          have e3 := HT1.out k x1 hx1
          have e4 := HT2.out k x2 hx2
          subst e3 e4
          have hk1I : (k : Int) < (n1 : Int) := by omega
          have hk2I : (k : Int) < (n2 : Int) := by omega
          clear hx1 hx2
          go_wp2_with fail
          exact ⟨⟨k + 1, by omega, by go_num, trivial⟩, by simp [intOf]; omega⟩
        · have hltI2 : ¬ (k : Int) < 2 + (m : Int) := by omega
          go_wp2_with fail
          refine Calls.mono (kn_fol HK6.out [1, -(2 + (m : Int))] (by simp)) ?_
          rintro ev w7 ⟨v3, r3, T3, rfl, hR3, F7, hK7, -, hv3⟩
          obtain rfl := chain_two HCH.out (by omega) hR3
          have HK7 : Hid (Kn w3 w7 F7 s 262144 C) := hK7
          have HWD : Hid _ := swords_any hK7.so
          rw [HAR.out] at HWD
          clear hK7 hv3 hR3
          go_wp2_with fail
          refine Calls.mono HWD.out ?_
          rintro ev w8 ⟨rfl, rfl⟩
          go_wp2_with fail
          refine bodyPost_ret (results_tmp rfl _ _ _) rfl ?_
          exact ⟨rfl, HB1.out.trans (HK7.out.bel.mono HB1.out.size)⟩
end Go.Proofs.Ytcbkgnalfdoemaa
