/- DdWide: the walk. -/
import Derived.Test.YtkmkmgnfolpphaaDoorDW12
namespace Go.Proofs.YtkmkmgnfolpphaaDoor
open Go.RowKit
set_option linter.unusedSimpArgs false
set_option linter.unusedVariables false

theorem chain_notQ {V L : Nat} (hL : L = (nsC V V).length) (h1 : 1 ≤ V) (h2 : V ≤ 120) : ansQ V 16384 (SC V V) (fC V, 0, 1) = some (gN L V, ⟨nsC V V ++ nN V L V, [], 0⟩) := by
  have hl : (nsC V V).length + V < 16384 := by
    obtain ⟨v, rfl⟩ : ∃ v, V = v + 1 := ⟨V - 1, by omega⟩
    rw [nsC_len]; omega
  unfold ansQ
  rw [chain_not hl V V (Nat.le_refl _) (Nat.le_refl _), ← hL]
  rfl
set_option maxRecDepth 20000 in
set_option maxHeartbeats 6400000 in
theorem wide_law (a : Int) (w : World) (htab : Lib.TabIs Tryd.prog w "internal/strconv.uint64pow10" .u64 Lib.pow10Tab) :
    Calls Tryd.prog 4 #[.int .i64 a] w fun e w' => e = .returned (.bool true) ∧ Below w.heap.size w w' := by
  have HK : Hid _ := known_any w
  have HTAB : Hid _ := htab
  have HP : Hid _ := fun wx => place_any (k := a) (n := 120) (by decide) (by decide) wx
  obtain ⟨V, hV⟩ : ∃ V : Nat, (1 + a % 120) = (V : Int) := ⟨(1 + a % 120).toNat, by omega⟩
  obtain ⟨p, hp⟩ : ∃ p : Int, p = a % 120 := ⟨_, rfl⟩
  have hV1 : 1 ≤ V := by omega
  have hV2 : V ≤ 120 := by omega
  have hp0 : 0 ≤ p := by omega
  have hp1 : p < 120 := by omega
  have hpV : 1 + p = (V : Int) := by omega
  rw [← hp] at HP
  have HV1 : Hid (1 ≤ V) := hV1
  have HV2 : Hid (V ≤ 120) := hV2
  have HNEW : Hid _ := fun wx => cg_new (V := V) (by omega) wx
  have hVI1 : (1 : Int) ≤ (V : Int) := by omega
  have hVI2 : (V : Int) ≤ 120 := by omega
  clear htab hp hV
  go_enter Tryd.func4, Tryd.ntmps4
  go_wp2_with fail
  refine Calls.mono HK.out ?_
  rintro e w1 ⟨rfl, hb1⟩
  have HB1 : Hid (Below w.heap.size w w1) := hb1
  clear hb1 HK
  go_wp2_with fail
  refine Calls.mono (HP.out w1) ?_
  rintro e wz ⟨rfl, hwz⟩
  rw [hwz]
  clear hwz wz HP
  go_wp2_with fail
  refine Calls.mono (HNEW.out w1) ?_
  rintro e w2 ⟨g, rfl, hc2⟩
  have HC2 : Hid (Cg w1 w2 g V (SC V 0)) := hc2
  clear hc2 HNEW
  go_wp2_with fail
  go_loopw [4, 5] (fun f i wr => ∃ k : Nat, k ≤ V ∧ f = .int .i64 (fC k) ∧ i = .int .i64 ((V : Int) - (k : Int) - 1) ∧ Hid (Cg w1 wr g V (SC V k))) (fun f i wr => (intOf i + 1).toNat)
  case atStart => exact ⟨0, Nat.zero_le _, rfl, by first | rfl | go_num | simp, HC2.out⟩
  case round =>
    obtain ⟨k, hk, rfl, rfl, hcg⟩ := hrel
    by_cases hkV : k < V
    · obtain ⟨v, S1, q1, q2, q3, q4, q5⟩ := chain_step HV2.out hkV
      have HVR : Hid _ := cg_var hcg.out rfl q1 ⟨by omega, by omega⟩
      have HQ : Hid (S1.sp = [] ∧ ansQ V 16384 S1 (v, fC k, 0) = some (fC (k + 1), SC V (k + 1)) ∧ alive S1.ns v ∧ alive S1.ns (fC k)) := ⟨q2, q3, q4, q5⟩
      obtain ⟨i, hi⟩ : ∃ i : Int, i = (V : Int) - (k : Int) - 1 := ⟨_, rfl⟩
      obtain ⟨f, hf⟩ : ∃ f : Int, f = fC k := ⟨_, rfl⟩
      obtain ⟨f', hf'⟩ : ∃ f' : Int, f' = fC (k + 1) := ⟨_, rfl⟩
      rw [← hi] at HVR
      rw [← hf, ← hf'] at HQ
      rw [← hi, ← hf]
      have hi0 : 0 ≤ i := by omega
      have hi1 : i < 120 := by omega
      have HI : Hid (i = (V : Int) - (k : Int) - 1) := hi
      have HF' : Hid (f' = fC (k + 1)) := hf'
      clear q1 q2 q3 q4 q5 hi hf hf' hcg
      go_wp2_with fail
      refine Calls.mono HVR.out ?_
      rintro e w3 ⟨rfl, hc3⟩
      have HA : Hid _ := cg_and hc3 HQ.out.1 HQ.out.2.2 HQ.out.2.1
      clear hc3 HVR HQ
      go_wp2_with fail
      refine Calls.mono HA.out ?_
      rintro e w4 ⟨rfl, hc4⟩
      have HC4 : Hid _ := hc4
      clear hc4 HA
      go_wp2_with fail
      exact ⟨⟨k + 1, hkV, by rw [HF'.out], by rw [HI.out]; first | rfl | (congr 1; omega), HC4.out⟩, by simp [intOf]; omega⟩
    · have ekV : k = V := by omega
      rw [ekV] at hcg ⊢
      have htab1 := tab_below HTAB.out HB1.out
      obtain ⟨n1, n2, n3, n4, n5, bs, x, n6, n7, n8, n9, n10, n11, n12⟩ := wide HV1.out HV2.out
      have good := hcg.out.good
      have al := fC_alive (V := V) (K := V) (j := V) (Nat.le_refl _) []
      rw [List.append_nil] at al
      obtain ⟨L, hL⟩ : ∃ L, L = (nsC V V).length := ⟨_, rfl⟩
      obtain ⟨SN, hSN⟩ : ∃ SN : St, SN = ⟨nsC V V ++ nN V L V, [], 0⟩ := ⟨_, rfl⟩
      have hsn : SN.ns = nsC V V ++ nN V L V := by rw [hSN]
      have hspn : SN.sp = [] := by rw [hSN]
      have HSZ : Hid _ := fun wx (h : Cg w1 wx g V (SC V V)) => cg_size h al (chain_size V)
      have HCT : Hid _ := fun wx (h : Cg w1 wx g V (SC V V)) => cg_count (ds := [1]) h (by omega) al (by show textN (cvl V (nsC V V) (fC V)) = _; rw [cvl_chain good V (Nat.le_refl _)]; exact n1) htab1
      have HNT : Hid _ := fun wx (h : Cg w1 wx g V (SC V V)) => cg_not (r := gN L V) (S' := SN) h rfl al (by rw [hSN]; exact chain_notQ hL HV1.out HV2.out)
      have HAL : Hid _ := fun wx (h : Cg w1 wx g V SN) => cg_count (ds := dbls V) (f := 1) h (by omega) (by rw [hsn]; exact fC_alive (V := V) (K := V) (j := 0) (Nat.zero_le _) _) (by rw [cvl_le (by decide)]; exact n2) htab1
      have HRS : Hid _ := fun wx (h : Cg w1 wx g V SN) => cg_count (ds := bs ++ [x - 1]) (f := gN L V) h (by omega) (by rw [hsn]; exact gN_alive hL (Nat.le_refl _)) (by
        have hg := h.good
        rw [hsn] at hg ⊢
        rw [cvl_not hL hg V (Nat.le_refl _)]; exact n7) htab1
      obtain ⟨f, hf⟩ : ∃ f : Int, f = fC V := ⟨_, rfl⟩
      obtain ⟨n, hn⟩ : ∃ n : Int, n = gN L V := ⟨_, rfl⟩
      obtain ⟨t, ht⟩ : ∃ t, t = gS (dbls V) := ⟨_, rfl⟩
      obtain ⟨rs, hrs⟩ : ∃ rs, rs = gS (bs ++ [x - 1]) := ⟨_, rfl⟩
      obtain ⟨hv, hhv⟩ : ∃ hv, hv = gS (hlfN (dbls V)) := ⟨_, rfl⟩
      have h49 : gS [1] = ⟨#[49]⟩ := rfl
      have dok := dbls_ok V
      have HHF : Hid _ := fun wx => lhalf_any dok.1 (by omega) wx
      have HDB : Hid _ := fun wx => ldouble_any n4 (by omega) wx
      have HLS : Hid _ := fun wx => lless_any n8 n9 n10 n11 (by omega) wx
      rw [n3, ← hhv, ← ht] at HDB
      rw [← ht, ← hhv] at HHF
      rw [← n6, ← ht, ← hrs] at HLS
      rw [← hf] at HSZ HCT HNT ⊢
      rw [h49] at HCT
      rw [← hn] at HNT HRS
      rw [← ht] at HAL
      rw [← hrs] at HRS
      have HT : Hid (t = gS (dbls V)) := ht
      have ei : (V : Int) - (V : Int) - 1 = -1 := by omega
      rw [ei]
      have HCG : Hid _ := hcg.out
      clear n1 n2 n3 n4 n5 n6 n7 n8 n9 n10 n11 n12 good al hL hSN hsn hspn hf hn ht hrs hhv h49 dok htab1 hcg hk hkV ekV ei
      go_wp2_with fail
      refine Calls.mono (HSZ.out _ HCG.out) ?_
      rintro e w3 ⟨rfl, hc3⟩
      have HN : Hid _ := HCT.out _ hc3
      clear hc3 HSZ HCG HCT
      go_wp2_with fail
      refine Calls.mono HN.out ?_
      rintro e w4 ⟨rfl, hc4⟩
      have HN : Hid _ := HNT.out _ hc4
      clear hc4 HNT
      go_wp2_with fail
      refine Calls.mono HN.out ?_
      rintro e w5 ⟨rfl, hc5⟩
      have HN : Hid _ := HAL.out _ hc5
      clear hc5 HAL
      go_wp2_with fail
      refine Calls.mono HN.out ?_
      rintro e w6 ⟨rfl, hc6⟩
      have HN : Hid _ := HRS.out _ hc6
      clear hc6 HRS
      go_wp2_with fail
      refine Calls.mono HN.out ?_
      rintro e w7 ⟨rfl, hc7⟩
      have HB7 : Hid (Below w.heap.size w w7) := HB1.out.trans (hc7.bel.mono HB1.out.size)
      clear hc7 HN
      go_wp2_with fail
      go_loopw [20, 21] (fun two q wr => ∃ j : Nat, j ≤ V ∧ two = .string (gS (dbls j)) ∧ q = .int .i64 (j : Int) ∧ w7 = wr) (fun two q wr => V - (intOf q).toNat)
      case atStart => exact ⟨0, Nat.zero_le _, rfl, rfl, rfl⟩
      case round =>
        obtain ⟨j, hj, rfl, rfl, rfl⟩ := hrel
        by_cases hjV : j < V
        · have dok := dbls_ok j
          have HDJ : Hid _ := ldouble_any dok.1 (by have := HV2.out; omega) w7
          have hd : dblN (dbls j) = dbls (j + 1) := rfl
          rw [hd] at HDJ
          obtain ⟨t1, ht1⟩ : ∃ t1, t1 = gS (dbls j) := ⟨_, rfl⟩
          obtain ⟨t2, ht2⟩ : ∃ t2, t2 = gS (dbls (j + 1)) := ⟨_, rfl⟩
          rw [← ht1, ← ht2] at HDJ
          rw [← ht1]
          have HT2 : Hid (t2 = gS (dbls (j + 1))) := ht2
          have hjI : (j : Int) < (V : Int) := by omega
          clear dok hd ht1 ht2 hj
          go_wp2_with fail
          refine Calls.mono HDJ.out ?_
          rintro e wz ⟨rfl, hwz⟩
          rw [hwz]
          clear hwz wz HDJ
          go_wp2_with fail
          exact ⟨⟨j + 1, hjV, by rw [HT2.out], by first | rfl | go_num, trivial⟩, by simp [intOf]; omega⟩
        · have ejV : j = V := by omega
          rw [ejV, ← HT.out]
          have hnn : ¬ (V : Int) < (V : Int) := by omega
          clear ejV hjV hj
          go_wp2_with fail
          refine Calls.mono (HHF.out w7) ?_
          rintro e wz ⟨rfl, hwz⟩
          rw [hwz]
          clear hwz wz
          go_wp2_with fail
          refine Calls.mono (HDB.out w7) ?_
          rintro e wz ⟨rfl, hwz⟩
          rw [hwz]
          clear hwz wz
          go_wp2_with fail
          refine Calls.mono (HLS.out w7) ?_
          rintro e w8 ⟨rfl, hb8⟩
          have HB8 : Hid (Below w.heap.size w w8) := HB7.out.trans (hb8.mono HB7.out.size)
          clear hb8
          go_wp2_with fail
          go_ret
          exact ⟨rfl, HB8.out⟩
end Go.Proofs.YtkmkmgnfolpphaaDoor
