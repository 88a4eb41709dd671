/- DdPins: the walk. -/
import Derived.Test.YtohfjpahdoodgaaDoorDF1
import Derived.Test.YtohfjpahdoodgaaDoorPD1
import Derived.Deep.CutBlock
import Derived.Test.YtohfjpahdoodgaaDoorDF6
namespace Go.Proofs.YtohfjpahdoodgaaDoor
open Go.RowKit
set_option linter.unusedSimpArgs false
set_option linter.unusedVariables false

set_option maxRecDepth 20000 in
set_option maxHeartbeats 6400000 in
theorem pins_law (nn bad : Int) (W : World) {s : Option Addr} {cap : Nat} {l : List Sp4} (hLa : La W s l) (hOk : ∀ s ∈ l, Sk s) (hmx : l.length ≤ maxLen) :
    Calls Tryd.prog 5 #[.int .i64 nn, .slice s l.length cap, .int .i64 bad] W fun e w' => e = .returned (.bool true) ∧ Below W.heap.size W w' := by
  have HLA : Hid (La W s l) := hLa
  obtain ⟨N, hN⟩ : ∃ N, N = l.length := ⟨_, rfl⟩
  rw [← hN] at hmx ⊢
  have HN : Hid (N = l.length) := hN
  have HMX : Hid (N ≤ maxLen) := hmx
  have hK : Hid _ := known_any W
  clear hLa hOk hN hmx
  go_enter Tryd.func5, Tryd.ntmps5
  go_wp2_with fail
  refine Calls.mono hK.out ?_
  rintro e w1 ⟨rfl, hb1⟩
  have HB1 : Hid (Below W.heap.size W w1) := hb1
  clear hK hb1
  by_cases hlong : 60 < N
  · have hl1 : (60 : Int) < (N : Int) := by omega
    go_wp2_with fail
    go_ret
    exact ⟨rfl, HB1.out⟩
  · have hl1 : decide ((60 : Int) < (N : Int)) = false := by simp; omega
    obtain ⟨n, hn⟩ : ∃ n : Nat, (n : Int) = nn % 7 := ⟨(nn % 7).toNat, Int.toNat_of_nonneg (Int.emod_nonneg _ (by decide))⟩
    have hn6 : n ≤ 6 := by have := Int.emod_lt_of_pos nn (show (0 : Int) < 7 by decide); omega
    have HBG : Hid _ := begun_any nn 16384 w1 hn
    have HP : Hid (2 ^ n ≤ 64 ∧ 1 ≤ 2 ^ n) := ⟨Nat.le_trans (Nat.pow_le_pow_right (by decide) hn6) (by decide), Nat.one_le_two_pow⟩
    clear hn
    go_wp2_with fail
    refine Calls.mono HBG.out ?_
    rintro e w2 ⟨wb, F, lv, g, H, rfl, hf, pu, hl2⟩
    have HF : Hid (Hf (wx w1) w2 F wb lv g n (mostOf 16384) (St0 n) (fun _ => 0) H) := hf
    have HPU : Hid (Pu n (St0 n) (fun _ => 0) H) := pu
    have HL2 : Hid (H.length = 2) := hl2
    clear hf pu hl2 HBG
    go_upto_block 0 with fail
    go_cut [8] from 34 to 53 (fun _ xw => Hid (∃ F lv S pn H, Hf (wx w1) xw F wb lv g n (mostOf 16384) S pn H ∧ Pu n S pn H ∧ cntF S.ns ≤ 3840 ∧ H.length ≤ 30))
    case first =>
      go_wp2_with fail
      go_loopw [8] (fun x wr => ∃ i : Nat, i ≤ N ∧ x = .int .i64 (i : Int) ∧ Hid (∃ F lv S pn H, Hf (wx w1) wr F wb lv g n (mostOf 16384) S pn H ∧ Pu n S pn H ∧ cntF S.ns ≤ i * 2 ^ n ∧ H.length ≤ 30)) (fun x wr => N - (intOf x).toNat)
      case atStart => exact ⟨0, Nat.zero_le _, rfl, _, lv, _, _, H, HF.out, HPU.out, by rw [Nat.zero_mul]; exact Nat.le_refl 0, by rw [HL2.out]; decide⟩
      case round =>
        clear HF HPU HL2
        obtain ⟨i, hi, rfl, hH⟩ := hrel
        obtain ⟨F, lv, S, pn, H, hf, pu, hc, hl⟩ := hH.out
        obtain ⟨-, -, m3, -, hwl, -⟩ := hf.cells
        have h2 := pu.len
        obtain ⟨rl, cl, hlv, -⟩ := hf.hl.get (j := 0) (p := H[0]) (by rw [List.getElem?_eq_getElem])
        subst hlv
        have HF : Hid (Hf (wx w1) wr F wb (.slice (some ⟨rl, 0, none⟩) H.length cl) g n (mostOf 16384) S pn H) := hf
        have HPU : Hid (Pu n S pn H) := pu
        have HC : Hid (cntF S.ns ≤ i * 2 ^ n) := hc
        have HC2 : Hid (cntF S.ns ≤ 3840) := by
          unfold Hid
          have h2 := HP.out.1
          have h3 : i * 2 ^ n ≤ 60 * 64 := Nat.mul_le_mul (by omega) h2
          omega
        obtain ⟨M, hM⟩ : ∃ M, M = H.length := ⟨_, rfl⟩
        rw [← hM] at m3 h2 hl
        have HM : Hid (M = H.length) := hM
        clear hf pu hc hH hM
        by_cases hin : i < N
        · have hiI : (i : Int) < (N : Int) := by omega
          by_cases hfew : M < 30
          · have hM40 : (M : Int) < 30 := by omega
            obtain ⟨st, hst⟩ : ∃ st, l[i]? = some st := ⟨_, List.getElem?_eq_getElem (by rw [← HN.out]; exact hin)⟩
            have hbW : Below W.heap.size W wr := HB1.out.trans (HF.out.bel.mono HB1.out.size)
            obtain ⟨sg, so, rfl, hsg, hLn⟩ : ∃ g o, s = some ⟨g, o, none⟩ ∧ g < wr.heap.size ∧ Ln wr g o l := by
              rcases HLA.out.below hbW with e | h
              · rw [e] at hst; simp at hst
              · exact h
            have t0 := hLn i st hst 0 _ rfl
            have t1 := hLn i st hst 1 _ rfl
            have t2 := hLn i st hst 2 _ rfl
            have t3 := hLn i st hst 3 _ rfl
            rw [Nat.add_zero] at t0
            have HDO : Hid (∀ x, Below wr.heap.size wr x → Calls Tryd.prog 10 #[.pointer (some ⟨wb, 0, none⟩), .agg #[.int .i64 st.what, .int .i64 st.a, .int .i64 st.b, .int .i64 st.c]] x fun e w' => e = .returned (.tuple #[]) ∧ DoR (wx w1) w' wb g n (mostOf 16384) S H) := fun x hx => does_any (HF.out.below hx) HPU.out (by omega) (by
              have h1 := HC2.out
              have h2 := HP.out.1
              have : mostOf 16384 = 16384 := by decide
              omega) (by rw [← HM.out]; omega) st.what st.a st.b st.c
            clear hLn hst hbW
            go_wp2_with fail
            refine Calls.mono (HDO.out _ (Below.refl _ _)) ?_
            rintro e w4 ⟨rfl, F', lv', S', pn', H', hf', pu', hg', hl'⟩
            have HEND : Hid (∃ F lv S pn H, Hf (wx w1) w4 F wb lv g n (mostOf 16384) S pn H ∧ Pu n S pn H ∧ cntF S.ns ≤ (i + 1) * 2 ^ n ∧ H.length ≤ 30) := ⟨F', lv', S', pn', H', hf', pu', by have := hg'.cnt; have := HC.out; rw [Nat.add_mul]; omega, by have := HM.out; omega⟩
            clear hf' pu' hg' hl'
            go_wp2_with fail
            exact ⟨⟨i + 1, by omega, by go_num, HEND.out⟩, by simp [intOf]; omega⟩
          · have hM40 : decide ((M : Int) < 30) = false := by simp; omega
            have HX : Hid (∃ F lv S pn H, Hf (wx w1) wr F wb lv g n (mostOf 16384) S pn H ∧ Pu n S pn H ∧ cntF S.ns ≤ 3840 ∧ H.length ≤ 30) := ⟨F, _, S, pn, H, HF.out, HPU.out, HC2.out, by rw [← HM.out]; exact hl⟩
            go_wp2_with fail
            go_meet
            case rel => exact HX
        · have hiI : decide ((i : Int) < (N : Int)) = false := by simp; omega
          have HX : Hid (∃ F lv S pn H, Hf (wx w1) wr F wb lv g n (mostOf 16384) S pn H ∧ Pu n S pn H ∧ cntF S.ns ≤ 3840 ∧ H.length ≤ 30) := ⟨F, _, S, pn, H, HF.out, HPU.out, HC2.out, by rw [← HM.out]; exact hl⟩
          go_wp2_with fail
          go_meet
          case rel => exact HX
    case rest =>
      clear HF HPU HL2
      obtain ⟨F, lv, S, pn, H, hf, pu, hc, hl⟩ := hcut.out
      clear hcut
      obtain ⟨wa, rfl⟩ : ∃ wa, wa = wc := ⟨_, rfl⟩
      have h2 := pu.len
      obtain ⟨rl, cl, hlv, -⟩ := hf.hl.get (j := 0) (p := H[0]) (by rw [List.getElem?_eq_getElem])
      subst hlv
      obtain ⟨M, hM⟩ : ∃ M, M = H.length := ⟨_, rfl⟩
      have HK : Hid (Hf (wx w1) wa F wb (.slice (some ⟨rl, 0, none⟩) M cl) g n (mostOf 16384) S pn H) := by unfold Hid; rw [hM]; exact hf
      have HPU : Hid (Pu n S pn H) := pu
      have HM : Hid (M = H.length) := hM
      have HLT : Hid (M < 1000) := by unfold Hid; omega
      have HA : Hid (∀ f, 1 ≤ pn f → alive S.ns f) := fun f hp => by obtain ⟨P, p1, p2⟩ := hf.rm.ps; exact p2 f ((p1 f).2 hp)
      clear hf pu hM hl h2 hc
      go_upto_block 2 with fail
      go_wp2_with fail
      go_loopw [9] (fun x wq => ∃ i : Nat, i ≤ M ∧ x = .int .i64 (i : Int) ∧ Hid (∃ F, Hf (wx w1) wq F wb (.slice (some ⟨rl, 0, none⟩) M cl) g n (mostOf 16384) S pn H)) (fun x wq => M - (intOf x).toNat)
      case atStart => exact ⟨0, Nat.zero_le _, rfl, _, HK.out⟩
      case round =>
        clear HK
        obtain ⟨wq, rfl⟩ : ∃ wq, wq = wr := ⟨_, rfl⟩
        obtain ⟨i, hi, rfl, hQ⟩ := hrel
        obtain ⟨F0, hf0⟩ := hQ.out
        obtain ⟨m0, -, c3, m4, lw, -⟩ := hf0.cells
        have HF0 : Hid _ := hf0
        clear hQ
        by_cases him : i < M
        · have hiI : (i : Int) < (M : Int) := by omega
          obtain ⟨⟨fi, vi, ti⟩, hpi⟩ : ∃ p, H[i]? = some p := ⟨_, List.getElem?_eq_getElem (by rw [← HM.out]; exact him)⟩
          obtain ⟨lr, d0, -⟩ := hf0.hl.get' hpi
          dsimp only at d0
          obtain ⟨ai, -⟩ := HPU.out.al _ (List.mem_of_getElem? hpi)
          dsimp only at ai
          have hpn := HPU.out.pn fi
          obtain ⟨cn, hcn⟩ : ∃ cn, cn = (H.map (·.1)).count fi := ⟨_, rfl⟩
          rw [← hcn] at hpn
          have hcp : 1 ≤ cn := by
            rw [hcn]
            exact List.count_pos_iff.2 (List.mem_map.2 ⟨_, List.mem_of_getElem? hpi, rfl⟩)
          have hcM : cn ≤ M := by
            rw [hcn, HM.out]
            have := List.count_le_length (a := fi) (l := H.map (·.1))
            simpa using this
          have HPI : Hid _ := hpi
          have HAI : Hid (alive S.ns fi) := ai
          have HCN : Hid (cn = (H.map (·.1)).count fi) := hcn
          have HPN : Hid (pn fi = if 2 ≤ fi then (cn : Int) else 0) := hpn
          have HCP : Hid (1 ≤ cn ∧ cn ≤ M) := ⟨hcp, hcM⟩
          clear hpi ai hcn hpn hcp hcM hf0
          have hiB : (i : Int) < 1000 := by have := HLT.out; omega
          go_wp2_with fail
          go_loopw [11, 12] (fun y x wz => ∃ k : Nat, k ≤ M ∧ x = .int .i64 (k : Int) ∧ y = .int .i64 (((H.take k).map (·.1)).count fi : Nat) ∧ Hid (wz = wq)) (fun y x wz => M - (intOf x).toNat)
          case atStart => exact ⟨0, Nat.zero_le _, rfl, rfl, rfl⟩
          case round =>
            obtain ⟨k, hk, rfl, rfl, hZ⟩ := hrel
            obtain rfl := hZ.out
            by_cases hkm : k < M
            · have hkI : (k : Int) < (M : Int) := by omega
              have hkB : (k : Int) < 1000 := by have := HLT.out; omega
              obtain ⟨⟨fk, vk, tk⟩, hpk⟩ : ∃ p, H[k]? = some p := ⟨_, List.getElem?_eq_getElem (by rw [← HM.out]; exact hkm)⟩
              obtain ⟨-, d1, -⟩ := HF0.out.hl.get' hpk
              dsimp only at d1
              have hct : ((H.take (k + 1)).map (·.1)).count fi = ((H.take k).map (·.1)).count fi + if fk = fi then 1 else 0 := by
                rw [List.take_add_one, hpk, List.map_append, List.count_append]
                simp [List.count_cons, beq_iff_eq]
              obtain ⟨q, hq⟩ : ∃ q, q = ((H.take k).map (·.1)).count fi := ⟨_, rfl⟩
              rw [← hq] at hct ⊢
              have hqB : (q : Int) < 1000 := by
                have h1 := List.count_le_length (a := fi) (l := (H.take k).map (·.1))
                rw [List.length_map, List.length_take] at h1
                have := HLT.out
                omega
              clear hq hpk
              by_cases e : fk = fi
              · subst e
                rw [if_pos rfl] at hct
                have HCT : Hid _ := hct
                clear hct
                go_wp2_with fail
                exact ⟨⟨k + 1, by omega, by go_num, by rw [HCT.out]; go_num, by first | exact trivial | rfl⟩, by simp [intOf]; omega⟩
              · rw [if_neg e, Nat.add_zero] at hct
                have hne : (fk == fi) = false := by simp [e]
                have HCT : Hid _ := hct
                clear hct e
                go_wp2_with fail
                exact ⟨⟨k + 1, by omega, by go_num, by rw [HCT.out]; rfl, by first | exact trivial | rfl⟩, by simp [intOf]; omega⟩
            · obtain rfl : M = k := by omega
              have hkI : decide ((M : Int) < (M : Int)) = false := by simp
              have htk : ((H.take M).map (·.1)).count fi = cn := by rw [HCN.out, HM.out, List.take_length]
              rw [htk]
              clear htk d0 hk hkm him
              by_cases h2 : 2 ≤ fi
              · have hf2 : decide (fi < 2) = false := by simp; omega
                have HPN2 : Hid (pn fi = (cn : Int)) := by unfold Hid; rw [HPN.out, if_pos h2]
                have HLV : Hid _ := live_any HF0.out.rm.gr HA.out
                obtain ⟨L, hL⟩ : ∃ L, L = livF S.ns pn := ⟨_, rfl⟩
                rw [← hL] at HLV
                have HL : Hid _ := hL
                have hcB : (cn : Int) < 1000 := by have := HLT.out; have := HCP.out; omega
                have H2 : Hid (2 ≤ fi) := h2
                clear hL m4 h2
                go_wp2_with fail
                refine Calls.mono HLV.out ?_
                rintro e w4 ⟨rfl, hb4⟩
                clear c3
                have HF4 : Hid _ := HF0.out.below hb4
                clear hb4 m0 lw
                go_wp2_with fail
                go_loopw [14] (fun x wz => ∃ k : Nat, k ≤ cn ∧ x = .int .i64 (k : Int) ∧ Hid (∃ F, Hf (wx w1) wz F wb (.slice (some ⟨rl, 0, none⟩) M cl) g n (mostOf 16384) S (pinA pn fi ((cn : Int) - k)) H)) (fun x wz => cn - (intOf x).toNat)
                case atStart => exact ⟨0, Nat.zero_le _, rfl, _, by rw [pinA_same (by rw [HPN2.out]; simp)]; exact HF4.out⟩
                case round =>
                  obtain ⟨wz, rfl⟩ : ∃ wz, wz = wr := ⟨_, rfl⟩
                  obtain ⟨k, hk, rfl, hZ⟩ := hrel
                  obtain ⟨F5, hf5⟩ := hZ.out
                  obtain ⟨m0, -, -, -, lw, -⟩ := hf5.cells
                  have HF5 : Hid _ := hf5
                  clear hZ hf5
                  by_cases hkc : k < cn
                  · have hkI : (k : Int) < (cn : Int) := by omega
                    have hkB : (k : Int) < 1000 := by omega
                    have HL5 := live_any HF5.out.rm.gr (fun f hp => HA.out f (pinA_ge (fun _ => by rw [HPN2.out]; omega) f hp))
                    rw [liv_congr (pn' := pn) (pinA_iff (by omega) (by rw [HPN2.out]; omega)), ← HL.out] at HL5
                    have HLL : Hid _ := HL5
                    clear HL5
                    go_wp2_with fail
                    refine Calls.mono HLL.out ?_
                    rintro e w5 ⟨rfl, hb5⟩
                    have HF6 : Hid _ := HF5.out.below hb5
                    have HU := unpin_any HF6.out.rm.gr fi (w64_alive HAI.out HF6.out.rm.gr.mg) (by rw [pinA_at]; omega)
                    rw [pinA_at, pinA_pinA, if_pos (show 1 ≤ (cn : Int) - k by omega)] at HU
                    have eu : unpE (pinA pn fi ((cn : Int) - k)) fi = 0 := if_pos (Or.inl (by rw [pinA_at]; omega))
                    rw [eu, show (cn : Int) - (k : Int) - 1 = (cn : Int) - ((k + 1 : Nat) : Int) by omega] at HU
                    have HUU : Hid _ := HU
                    obtain ⟨m0, -, -, -, lw, -⟩ := HF6.out.cells
                    clear hb5 HU eu HLL HF5
                    go_wp2_with fail
                    refine Calls.mono HUU.out ?_
                    rintro e w6 ⟨rfl, F7, hg7, hc7⟩
                    have HF7 : Hid (Hf (wx w1) w6 F7 wb (.slice (some ⟨rl, 0, none⟩) M cl) g n (mostOf 16384) S (pinA pn fi ((cn : Int) - ((k + 1 : Nat) : Int))) H) := HF6.out.ch hc7 ⟨hg7, HF6.out.rm.sp, by have := ps_pinA ((cn : Int) - ((k + 1 : Nat) : Int)) HF6.out.rm.ps HAI.out; rwa [pinA_pinA] at this⟩
                    clear hg7 hc7 HUU m0 lw
                    go_wp2_with fail
                    exact ⟨⟨k + 1, by omega, by go_num, _, HF7.out⟩, by simp [intOf]; omega⟩
                  · obtain rfl : k = cn := by omega
                    have hkI : decide ((k : Int) < (k : Int)) = false := by simp
                    have hU0 := unpin_any HF5.out.rm.gr fi (w64_alive HAI.out HF5.out.rm.gr.mg) (by rw [pinA_at]; omega)
                    rw [pinA_at, Int.sub_self, if_neg (by decide)] at hU0
                    have eu : unpE (pinA pn fi 0) fi = 140 := if_neg (by rw [pinA_at]; have := H2.out; omega)
                    rw [eu] at hU0
                    have HU0 : Hid _ := hU0
                    have HF6 : Hid (Hf (wx w1) wz F5 wb (.slice (some ⟨rl, 0, none⟩) M cl) g n (mostOf 16384) S (pinA pn fi 0) H) := by unfold Hid; have := HF5.out; rwa [Int.sub_self] at this
                    clear hU0 eu HF5
                    go_wp2_with fail
                    refine Calls.mono HU0.out ?_
                    rintro e w5 ⟨rfl, F6, hg6, hc6⟩
                    have HF7 : Hid _ := HF6.out.ch hc6 ⟨hg6, HF6.out.rm.sp, HF6.out.rm.ps⟩
                    have HL7 := live_any HF7.out.rm.gr (fun f hp => HA.out f (pinA_ge (fun q => by omega) f hp))
                    obtain ⟨L0, hL0⟩ : ∃ L0, L0 = livF S.ns (pinA pn fi 0) := ⟨_, rfl⟩
                    rw [← hL0] at HL7
                    have hle : L0 ≤ L := by rw [hL0, HL.out]; exact liv_mono (pinA_ge fun q => by omega)
                    have hLI : ¬ L < L0 := by omega
                    have HLL : Hid _ := HL7
                    obtain ⟨m0, -, -, -, lw, -⟩ := HF7.out.cells
                    clear hg6 hc6 HL7 hL0 hle HF6 HU0
                    go_wp2_with fail
                    refine Calls.mono HLL.out ?_
                    rintro e w6 ⟨rfl, hb6⟩
                    have HF8 : Hid _ := HF7.out.below hb6
                    clear hb6 m0 lw HLL HF7
                    go_wp2_with fail
                    go_loopw [15] (fun x wz => ∃ q : Nat, q ≤ k ∧ x = .int .i64 (q : Int) ∧ Hid (∃ F, Hf (wx w1) wz F wb (.slice (some ⟨rl, 0, none⟩) M cl) g n (mostOf 16384) S (pinA pn fi (q : Int)) H)) (fun x wz => k - (intOf x).toNat)
                    case atStart => exact ⟨0, Nat.zero_le _, rfl, _, HF8.out⟩
                    case round =>
                      obtain ⟨wy, rfl⟩ : ∃ wy, wy = wr := ⟨_, rfl⟩
                      obtain ⟨q, hq, rfl, hZ⟩ := hrel
                      obtain ⟨F5, hf5⟩ := hZ.out
                      obtain ⟨m0, -, -, -, lw, -⟩ := hf5.cells
                      have HF5 : Hid _ := hf5
                      clear hZ hf5
                      by_cases hqk : q < k
                      · have hqI : (q : Int) < (k : Int) := by omega
                        have hqB : (q : Int) < 1000 := by omega
                        have HP1 := pin_any HF5.out.rm.gr fi (by rw [pinA_at]; omega)
                        rw [if_pos HAI.out, if_pos ⟨HAI.out, H2.out⟩, pinA_at, pinA_pinA, show (q : Int) + 1 = ((q + 1 : Nat) : Int) by omega] at HP1
                        have HPP : Hid _ := HP1
                        clear HP1
                        go_wp2_with fail
                        refine Calls.mono HPP.out ?_
                        rintro e w7 ⟨rfl, F7, hg7, hc7⟩
                        have HF7 : Hid (Hf (wx w1) w7 F7 wb (.slice (some ⟨rl, 0, none⟩) M cl) g n (mostOf 16384) S (pinA pn fi ((q + 1 : Nat) : Int)) H) := HF5.out.ch hc7 ⟨hg7, HF5.out.rm.sp, by have := ps_pinA ((q + 1 : Nat) : Int) HF5.out.rm.ps HAI.out; rwa [pinA_pinA] at this⟩
                        clear hg7 hc7 HPP m0 lw
                        go_wp2_with fail
                        exact ⟨⟨q + 1, by omega, by go_num, _, HF7.out⟩, by simp [intOf]; omega⟩
                      · obtain rfl : q = k := by omega
                        have hqI : decide ((q : Int) < (q : Int)) = false := by simp
                        have HF6 : Hid (Hf (wx w1) wy F5 wb (.slice (some ⟨rl, 0, none⟩) M cl) g n (mostOf 16384) S pn H) := by unfold Hid; have := HF5.out; rwa [pinA_same HPN2.out] at this
                        clear m0 lw
                        go_wp2_with fail
                        exact ⟨⟨i + 1, by omega, by go_num, _, HF6.out⟩, by simp [intOf]; omega⟩
              · have hf2 : fi < 2 := by omega
                have h01 : fi = 0 ∨ fi = 1 := by have := HAI.out.1; omega
                have HP1 := pin_any HF0.out.rm.gr fi (by rw [HPN.out, if_neg (by omega)]; decide)
                rw [if_pos HAI.out, if_neg (by omega)] at HP1
                have HPP : Hid _ := HP1
                have HPN0 : Hid (pn fi = 0) := by unfold Hid; rw [HPN.out, if_neg (by omega)]
                clear HP1 m4
                go_wp2_with fail
                refine Calls.mono HPP.out ?_
                rintro e w4 ⟨rfl, F4, hg4, hc4⟩
                clear c3
                have HF4 : Hid _ := HF0.out.ch hc4 ⟨hg4, HF0.out.rm.sp, HF0.out.rm.ps⟩
                have HU := unpin_any HF4.out.rm.gr fi (w64_alive HAI.out HF4.out.rm.gr.mg) (by rw [HPN0.out]; decide)
                have eu : unpE pn fi = 0 := if_pos (Or.inr h01)
                rw [eu, if_neg (by rw [HPN0.out]; decide)] at HU
                have HUU : Hid _ := HU
                obtain ⟨m0, -, -, -, lw, -⟩ := HF4.out.cells
                clear hg4 hc4 HU eu HPP
                go_wp2_with fail
                refine Calls.mono HUU.out ?_
                rintro e w5 ⟨rfl, F5, hg5, hc5⟩
                have HF5 : Hid _ := HF4.out.ch hc5 ⟨hg5, HF4.out.rm.sp, HF4.out.rm.ps⟩
                clear hg5 hc5 HUU m0 lw
                go_wp2_with fail
                exact ⟨⟨i + 1, by omega, by go_num, _, HF5.out⟩, by simp [intOf]; omega⟩
        · have hiI : decide ((i : Int) < (M : Int)) = false := by simp; omega
          have HBE : Hid (Below W.heap.size W wq) := HB1.out.trans (HF0.out.bel.mono HB1.out.size)
          by_cases hb : 0 ≤ bad ∧ bad < 1099511627776
          · have hb1 := hb.1
            have hb2 := hb.2
            clear hb
            go_wp2_with fail
            go_ret
            exact ⟨rfl, HBE.out⟩
          · have HBD : Hid (¬ alive S.ns bad) := fun h => hb ⟨h.1, by
              have h1 := h.2.1
              have h2 := HF0.out.rm.gr.mg.len
              have h3 : mostOf 16384 = 16384 := by decide
              have h4 := h.1
              omega⟩
            have HNB : Hid _ := not_bad HF0.out.rm bad HBD.out
            by_cases hb0 : 0 ≤ bad
            · have hb1 : decide (bad < 1099511627776) = false := by simp; omega
              clear hb
              go_wp2_with fail
              refine Calls.mono HNB.out ?_
              rintro e w4 ⟨rfl, F4, hr4, hc4⟩
              have HF4 : Hid _ := HF0.out.ch hc4 hr4
              have HIB : Hid _ := ite_bad HF4.out.rm bad HBD.out
              obtain ⟨m0', -, -, -, lw', -⟩ := HF4.out.cells
              clear hr4 hc4 HNB HF0 m0 lw c3 m4
              go_wp2_with fail
              refine Calls.mono HIB.out ?_
              rintro e w5 ⟨rfl, F5, hr5, hc5⟩
              have HF5 : Hid _ := HF4.out.ch hc5 hr5
              have HSZ := size_any HF5.out.rm.gr bad
              rw [if_neg HBD.out] at HSZ
              have HSB : Hid _ := HSZ
              obtain ⟨m0, -, -, -, lw, -⟩ := HF5.out.cells
              clear hr5 hc5 HIB HF4 m0' lw' HSZ
              go_wp2_with fail
              refine Calls.mono HSB.out ?_
              rintro e w6 ⟨rfl, hb6⟩
              have HF6 : Hid _ := HF5.out.below hb6
              have HCB : Hid _ := count_no HF6.out.rm.gr bad HBD.out
              have HOB : Hid _ := some_no HF6.out.rm.gr bad HBD.out
              have hpb := pin_any HF6.out.rm.gr bad (by
                have h1 := HF6.out.rm.gr.pnz bad
                obtain ⟨P, p1, p2⟩ := HF6.out.rm.ps
                by_cases q : 1 ≤ pn bad
                · exact absurd (p2 bad ((p1 bad).2 q)) HBD.out
                · omega)
              rw [if_neg HBD.out] at hpb
              have HPB : Hid _ := hpb
              obtain ⟨m0', -, -, m4', lw', -⟩ := HF6.out.cells
              clear hb6 HSB HF5 m0 lw hpb
              go_wp2_with fail
              refine Calls.mono HCB.out ?_
              rintro e w7 ⟨rfl, hw7⟩
              rw [hw7]
              clear hw7 w7 HCB
              go_wp2_with fail
              refine Calls.mono HOB.out ?_
              rintro e w7 ⟨rfl, hw7⟩
              rw [hw7]
              clear hw7 w7 HOB
              go_wp2_with fail
              refine Calls.mono HPB.out ?_
              rintro e w7 ⟨rfl, F7, hg7, hc7⟩
              have HE : Hid (Below w1.heap.size w1 w7) := (hc7.low HF6.out.bel HF6.out.low).1
              clear hg7 hc7 HPB HF6 m0' m4' lw'
              go_wp2_with fail
              go_ret
              exact ⟨rfl, HB1.out.trans (HE.out.mono HB1.out.size)⟩
            · have hb1 : decide (0 ≤ bad) = false := by simp; omega
              clear hb hb0
              go_wp2_with fail
              refine Calls.mono HNB.out ?_
              rintro e w4 ⟨rfl, F4, hr4, hc4⟩
              have HF4 : Hid _ := HF0.out.ch hc4 hr4
              have HIB : Hid _ := ite_bad HF4.out.rm bad HBD.out
              obtain ⟨m0', -, -, -, lw', -⟩ := HF4.out.cells
              clear hr4 hc4 HNB HF0 m0 lw c3 m4
              go_wp2_with fail
              refine Calls.mono HIB.out ?_
              rintro e w5 ⟨rfl, F5, hr5, hc5⟩
              have HF5 : Hid _ := HF4.out.ch hc5 hr5
              have HSZ := size_any HF5.out.rm.gr bad
              rw [if_neg HBD.out] at HSZ
              have HSB : Hid _ := HSZ
              obtain ⟨m0, -, -, -, lw, -⟩ := HF5.out.cells
              clear hr5 hc5 HIB HF4 m0' lw' HSZ
              go_wp2_with fail
              refine Calls.mono HSB.out ?_
              rintro e w6 ⟨rfl, hb6⟩
              have HF6 : Hid _ := HF5.out.below hb6
              have HCB : Hid _ := count_no HF6.out.rm.gr bad HBD.out
              have HOB : Hid _ := some_no HF6.out.rm.gr bad HBD.out
              have hpb := pin_any HF6.out.rm.gr bad (by
                have h1 := HF6.out.rm.gr.pnz bad
                obtain ⟨P, p1, p2⟩ := HF6.out.rm.ps
                by_cases q : 1 ≤ pn bad
                · exact absurd (p2 bad ((p1 bad).2 q)) HBD.out
                · omega)
              rw [if_neg HBD.out] at hpb
              have HPB : Hid _ := hpb
              obtain ⟨m0', -, -, m4', lw', -⟩ := HF6.out.cells
              clear hb6 HSB HF5 m0 lw hpb
              go_wp2_with fail
              refine Calls.mono HCB.out ?_
              rintro e w7 ⟨rfl, hw7⟩
              rw [hw7]
              clear hw7 w7 HCB
              go_wp2_with fail
              refine Calls.mono HOB.out ?_
              rintro e w7 ⟨rfl, hw7⟩
              rw [hw7]
              clear hw7 w7 HOB
              go_wp2_with fail
              refine Calls.mono HPB.out ?_
              rintro e w7 ⟨rfl, F7, hg7, hc7⟩
              have HE : Hid (Below w1.heap.size w1 w7) := (hc7.low HF6.out.bel HF6.out.low).1
              clear hg7 hc7 HPB HF6 m0' m4' lw'
              go_wp2_with fail
              go_ret
              exact ⟨rfl, HB1.out.trans (HE.out.mono HB1.out.size)⟩
end Go.Proofs.YtohfjpahdoodgaaDoor
