/- DdOnce: the walk. -/
import Derived.Test.YtohfjpahdoodgaaDoorDE48
import Derived.Test.YtohfjpahdoodgaaDoorPD1
import Derived.Deep.CutBlock
namespace Go.Proofs.YtohfjpahdoodgaaDoor
open Go.RowKit
set_option linter.unusedSimpArgs false
set_option linter.unusedVariables false

set_option maxRecDepth 20000 in
set_option maxHeartbeats 6400000 in
theorem once_law (nn : Int) (W : World) {s : Option Addr} {cap : Nat} {l : List Sp4} (hLa : La W s l) (hOk : ∀ s ∈ l, Sk s) (hmx : l.length ≤ maxLen) :
    Calls Tryd.prog 4 #[.int .i64 nn, .slice s l.length cap] W fun e w' => e = .returned (.bool true) ∧ Below W.heap.size W w' := by
  have HLA : Hid (La W s l) := hLa
  obtain ⟨N, hN⟩ : ∃ N, N = l.length := ⟨_, rfl⟩
  rw [← hN] at hmx ⊢
  have HN : Hid (N = l.length) := hN
  have HMX : Hid (N ≤ maxLen) := hmx
  have hK : Hid _ := known_any W
  clear hLa hOk hN hmx
  go_enter Tryd.func4, Tryd.ntmps4
  go_wp2_with fail
  refine Calls.mono hK.out ?_
  rintro e w1 ⟨rfl, hb1⟩
  have HB1 : Hid (Below W.heap.size W w1) := hb1
  clear hK hb1
  by_cases hlong : 60 < N
  · have hl1 : (60 : Int) < (N : Int) := by omega
    go_wp2_with fail
    go_ret
    exact ⟨rfl, HB1.out⟩
  · have hl1 : decide ((60 : Int) < (N : Int)) = false := by simp; omega
    obtain ⟨n, hn⟩ : ∃ n : Nat, (n : Int) = nn % 7 := ⟨(nn % 7).toNat, Int.toNat_of_nonneg (Int.emod_nonneg _ (by decide))⟩
    have hn6 : n ≤ 6 := by have := Int.emod_lt_of_pos nn (show (0 : Int) < 7 by decide); omega
    have HBG : Hid _ := begun_any nn 16384 w1 hn
    have HP : Hid (2 ^ n ≤ 64 ∧ 1 ≤ 2 ^ n) := ⟨Nat.le_trans (Nat.pow_le_pow_right (by decide) hn6) (by decide), Nat.one_le_two_pow⟩
    clear hn
    go_wp2_with fail
    refine Calls.mono HBG.out ?_
    rintro e w2 ⟨wb, F, lv, g, H, rfl, hf, pu, hl2⟩
    have HF : Hid (Hf (wx w1) w2 F wb lv g n (mostOf 16384) (St0 n) (fun _ => 0) H) := hf
    have HPU : Hid (Pu n (St0 n) (fun _ => 0) H) := pu
    have HL2 : Hid (H.length = 2) := hl2
    clear hf pu hl2 HBG
    go_upto_block 0 with fail
    go_cut [6] from 24 to 43 (fun _ xw => Hid (∃ F lv S pn H, Hf (wx w1) xw F wb lv g n (mostOf 16384) S pn H ∧ Pu n S pn H ∧ H.length ≤ 40))
    case first =>
      go_wp2_with fail
      go_loopw [6] (fun x wr => ∃ i : Nat, i ≤ N ∧ x = .int .i64 (i : Int) ∧ Hid (∃ F lv S pn H, Hf (wx w1) wr F wb lv g n (mostOf 16384) S pn H ∧ Pu n S pn H ∧ cntF S.ns ≤ i * 2 ^ n ∧ H.length ≤ 40)) (fun x wr => N - (intOf x).toNat)
      case atStart => exact ⟨0, Nat.zero_le _, rfl, F, lv, _, _, H, HF.out, HPU.out, by rw [Nat.zero_mul]; exact Nat.le_refl 0, by rw [HL2.out]; decide⟩
      case round =>
        clear HF HPU HL2
        obtain ⟨i, hi, rfl, hH⟩ := hrel
        obtain ⟨F, lv, S, pn, H, hf, pu, hc, hl⟩ := hH.out
        obtain ⟨-, -, m3, -, hwl, -⟩ := hf.cells
        have h2 := pu.len
        obtain ⟨rl, cl, hlv, -⟩ := hf.hl.get (j := 0) (p := H[0]) (by rw [List.getElem?_eq_getElem])
        subst hlv
        have HF : Hid (Hf (wx w1) wr F wb (.slice (some ⟨rl, 0, none⟩) H.length cl) g n (mostOf 16384) S pn H) := hf
        have HPU : Hid (Pu n S pn H) := pu
        have HC : Hid (cntF S.ns ≤ i * 2 ^ n) := hc
        obtain ⟨M, hM⟩ : ∃ M, M = H.length := ⟨_, rfl⟩
        rw [← hM] at m3 h2 hl
        have HM : Hid (M = H.length) := hM
        clear hf pu hc hH hM
        by_cases hin : i < N
        · have hiI : (i : Int) < (N : Int) := by omega
          by_cases hfew : M < 40
          · have hM40 : (M : Int) < 40 := by omega
            obtain ⟨st, hst⟩ : ∃ st, l[i]? = some st := ⟨_, List.getElem?_eq_getElem (by rw [← HN.out]; exact hin)⟩
            have hbW : Below W.heap.size W wr := HB1.out.trans (HF.out.bel.mono HB1.out.size)
            obtain ⟨sg, so, rfl, hsg, hLn⟩ : ∃ g o, s = some ⟨g, o, none⟩ ∧ g < wr.heap.size ∧ Ln wr g o l := by
              rcases HLA.out.below hbW with e | h
              · rw [e] at hst; simp at hst
              · exact h
            have t0 := hLn i st hst 0 _ rfl
            have t1 := hLn i st hst 1 _ rfl
            have t2 := hLn i st hst 2 _ rfl
            have t3 := hLn i st hst 3 _ rfl
            rw [Nat.add_zero] at t0
            have HDO : Hid _ := does_any HF.out HPU.out (by omega) (by
              have h1 := HC.out
              have h2 := HP.out.1
              have h3 : i * 2 ^ n ≤ 60 * 64 := Nat.mul_le_mul (by omega) h2
              have : mostOf 16384 = 16384 := by decide
              omega) (by rw [← HM.out]; omega) st.what st.a st.b st.c
            clear hLn hst hbW
            go_wp2_with fail
            refine Calls.mono HDO.out ?_
            rintro e w4 ⟨rfl, F', lv', S', pn', H', hf', pu', hg', hl'⟩
            have HEND : Hid (∃ F lv S pn H, Hf (wx w1) w4 F wb lv g n (mostOf 16384) S pn H ∧ Pu n S pn H ∧ cntF S.ns ≤ (i + 1) * 2 ^ n ∧ H.length ≤ 40) := ⟨F', lv', S', pn', H', hf', pu', by have := hg'.cnt; have := HC.out; rw [Nat.add_mul]; omega, by have := HM.out; omega⟩
            clear hf' pu' hg' hl'
            go_wp2_with fail
            exact ⟨⟨i + 1, by omega, by go_num, HEND.out⟩, by simp [intOf]; omega⟩
          · have hM40 : decide ((M : Int) < 40) = false := by simp; omega
            have HX : Hid (∃ F lv S pn H, Hf (wx w1) wr F wb lv g n (mostOf 16384) S pn H ∧ Pu n S pn H ∧ H.length ≤ 40) := ⟨F, _, S, pn, H, HF.out, HPU.out, by rw [← HM.out]; exact hl⟩
            go_wp2_with fail
            go_meet
            case rel => exact HX
        · have hiI : decide ((i : Int) < (N : Int)) = false := by simp; omega
          have HX : Hid (∃ F lv S pn H, Hf (wx w1) wr F wb lv g n (mostOf 16384) S pn H ∧ Pu n S pn H ∧ H.length ≤ 40) := ⟨F, _, S, pn, H, HF.out, HPU.out, by rw [← HM.out]; exact hl⟩
          go_wp2_with fail
          go_meet
          case rel => exact HX
    case rest =>
      obtain ⟨F, lv, S, pn, H, hf, pu, hl⟩ := hcut.out
      clear HF HPU HL2
      obtain ⟨wa, rfl⟩ : ∃ wa, wa = wc := ⟨_, rfl⟩
      obtain ⟨-, -, m3, -, hwl, -⟩ := hf.cells
      have h2 := pu.len
      obtain ⟨rl, cl, hlv, -⟩ := hf.hl.get (j := 0) (p := H[0]) (by rw [List.getElem?_eq_getElem])
      subst hlv
      obtain ⟨M, hM⟩ : ∃ M, M = H.length := ⟨_, rfl⟩
      have HK : Hid (Hf (wx w1) wa F wb (.slice (some ⟨rl, 0, none⟩) M cl) g n (mostOf 16384) S pn H) := by unfold Hid; rw [hM]; exact hf
      have HPU : Hid (Pu n S pn H) := pu
      have HM : Hid (M = H.length) := hM
      have HLT : Hid (M < 1000) := by unfold Hid; omega
      clear hf pu hcut hM hl h2 m3 hwl
      go_upto_block 2 with fail
      go_wp2_with fail
      go_loopw [7] (fun x wq => ∃ k : Nat, k ≤ M ∧ x = .int .i64 (k : Int) ∧ Hid (Below wa.heap.size wa wq)) (fun x wq => M - (intOf x).toNat)
      case atStart => exact ⟨0, Nat.zero_le _, rfl, Below.refl _ _⟩
      case round =>
        obtain ⟨wq, rfl⟩ : ∃ wq, wq = wr := ⟨_, rfl⟩
        obtain ⟨k, hk, rfl, hQ⟩ := hrel
        have c3 := (HK.out.below hQ.out).cells.2.2.1
        have lw := (HK.out.below hQ.out).cells.2.2.2.2.1
        by_cases hkm : k < M
        · have hkI : (k : Int) < (M : Int) := by omega
          obtain ⟨⟨fk, vk, tk⟩, hpk⟩ : ∃ p, H[k]? = some p := ⟨_, List.getElem?_eq_getElem (by rw [← HM.out]; exact hkm)⟩
          have HPK : Hid (H[k]? = some (fk, vk, tk)) := hpk
          have HTK : Hid (Tb wa F w1.heap.size vk tk) := HK.out.hl.tb _ (List.mem_of_getElem? hpk)
          obtain ⟨rk, lk, evk⟩ : ∃ r l, vk = .slice (some ⟨r, 0, none⟩) l l := by obtain ⟨r, cs, e, -⟩ := HTK.out.ex; exact ⟨r, _, e⟩
          subst evk
          clear hpk
          go_upto_block 4 with fail
          clear c3 lw
          go_cut [8] from 53 to 92 (fun _ xw => Hid (Below wa.heap.size wa xw))
          case first =>
            go_wp2_with fail
            go_loopw [8] (fun x wz => ∃ j : Nat, j ≤ k ∧ x = .int .i64 (j : Int) ∧ Hid (Below wa.heap.size wa wz)) (fun x wz => k - (intOf x).toNat)
            case atStart => exact ⟨0, Nat.zero_le _, rfl, hQ.out⟩
            case round =>
              obtain ⟨wz, rfl⟩ : ∃ wz, wz = wr := ⟨_, rfl⟩
              obtain ⟨j, hj, rfl, hZ⟩ := hrel
              by_cases hjk : j < k
              · have hjI : (j : Int) < (k : Int) := by omega
                have hjM : (j : Int) < (M : Int) := by omega
                have hz := HK.out.below hZ.out
                obtain ⟨-, -, c3z, -, lwz, -⟩ := hz.cells
                obtain ⟨⟨fj, vj, tj⟩, hpj⟩ : ∃ p, H[j]? = some p := ⟨_, List.getElem?_eq_getElem (by rw [← HM.out]; omega)⟩
                have htj := hz.hl.tb _ (List.mem_of_getElem? hpj)
                have htk := hz.hl.tb _ (List.mem_of_getElem? HPK.out)
                obtain ⟨rj, lj, evj⟩ : ∃ r l, vj = .slice (some ⟨r, 0, none⟩) l l := by obtain ⟨r, cs, e, -⟩ := htj.ex; exact ⟨r, _, e⟩
                subst evj
                obtain ⟨lrj, d0, d1⟩ := hz.hl.get' hpj
                obtain ⟨lr, d2, d3⟩ := hz.hl.get' HPK.out
                dsimp only at d0 d1 d2 d3 htj htk
                obtain ⟨aj, etj⟩ := HPU.out.al _ (List.mem_of_getElem? hpj)
                obtain ⟨ak, etk⟩ := HPU.out.al _ (List.mem_of_getElem? HPK.out)
                dsimp only at aj etj ak etk
                have hiff : tk = tj ↔ fk = fj := by rw [etj, etk]; exact tab_eq (by omega) HK.out.rm.good ak aj
                obtain ⟨bb, hbb⟩ : ∃ bb, bb = decide (tk = tj) := ⟨_, rfl⟩
                have hfb : (fk == fj) = bb := by rw [hbb]; by_cases e : fk = fj <;> simp [e, hiff]
                have hlen : ∀ f, (tabV n fun x => val n S.ns x f).length ≤ 1000000 := fun f => by rw [tabV_len]; have := (n2_le (n := n) (by omega)).1; omega
                have HSM : Hid (∀ x, Below wz.heap.size wz x → Calls Tryd.prog 23 #[.slice (some ⟨rk, 0, none⟩) lk lk, .slice (some ⟨rj, 0, none⟩) lj lj] x fun e w' => e = .returned (.bool bb) ∧ Below x.heap.size x w') := fun x hb => by
                  have := tsame_any (htk.bz.bel hb) (htj.bz.bel hb) (by rw [etk]; exact hlen fk) (by rw [etj]; exact hlen fj)
                  rw [← hbb] at this
                  exact this
                clear hiff hbb aj etj ak etk htj htk hz hpj hlen
                go_upto_region 16 with fail
                refine wp_named fun a0 ha0 => ?_
                have o5 := old_at ha0 (t := 5) rfl
                have o7 := old_at ha0 (t := 7) rfl
                have o8 := old_at ha0 (t := 8) rfl
                refine wp_region_lin (S := BW wz) [] (fun _ => 0) (by kernel_rfl) (by kernel_rfl) (by rw [← ha0]; kernel_rfl) (BW.start) ?_
                refine' LinAll.cons _ ?_ ?_ ?_
                rotate_left 1
                · intro gg L a x hLi haft hS hK
                  have t5 := (hK.old 5 (by kernel_rfl)).trans o5
                  (try dsimp only at t5)
                  refine go_in (wanted_all rfl) ?_
                  intro K hk
                  clear haft hK hLi
                  go_simp
                  exact hk.out gg x (fun _ _ => rfl) (hS.go)
                · intro i hi; exact Or.inl (fun _ _ _ => rfl)
                refine' LinAll.cons _ ?_ ?_ ?_
                rotate_left 1
                · intro gg L a x hLi haft hS hK
                  have t58 := hK.new 0 0 _ 58 _ rfl rfl rfl (by kernel_rfl) (waits haft 0 (by kernel_rfl))
                  (try dsimp only at t58)
                  refine go_in (wanted_all rfl) ?_
                  intro K hk
                  clear haft hK hLi
                  go_simp
                  exact hk.out gg x (fun _ _ => rfl) (hS.go)
                · intro i hi; exact Or.inl (fun _ _ _ => rfl)
                refine' LinAll.cons _ ?_ ?_ ?_
                rotate_left 1
                · intro gg L a x hLi haft hS hK
                  have t59 := hK.new 1 0 _ 59 _ rfl rfl rfl (by kernel_rfl) (waits haft 1 (by kernel_rfl))
                  (try dsimp only at t59)
                  refine go_in (wanted_all rfl) ?_
                  intro K hk
                  clear haft hK hLi
                  go_simp
                  exact hk.out gg x (fun _ _ => rfl) (hS.go)
                · intro i hi; exact Or.inl (fun _ _ _ => rfl)
                refine' LinAll.cons _ ?_ ?_ ?_
                rotate_left 1
                · intro gg L a x hLi haft hS hK
                  have t60 := hK.new 2 0 _ 60 _ rfl rfl rfl (by kernel_rfl) (waits haft 2 (by kernel_rfl))
                  (try dsimp only at t60)
                  have cX := bel_cell hS.bel lwz c3z
                  refine go_in (wanted_all rfl) ?_
                  intro K hk
                  clear haft hK hLi
                  go_simp
                  exact hk.out gg x (fun _ _ => rfl) (hS.go)
                · intro i hi; exact Or.inl (fun _ _ _ => rfl)
                refine' LinAll.cons _ ?_ ?_ ?_
                rotate_left 1
                · intro gg L a x hLi haft hS hK
                  have t7 := (hK.old 7 (by kernel_rfl)).trans o7
                  (try dsimp only at t7)
                  refine go_in (wanted_all rfl) ?_
                  intro K hk
                  clear haft hK hLi
                  go_simp
                  exact hk.out gg x (fun _ _ => rfl) (hS.go)
                · intro i hi; exact Or.inl (fun _ _ _ => rfl)
                refine' LinAll.cons _ ?_ ?_ ?_
                rotate_left 1
                · intro gg L a x hLi haft hS hK
                  have t61 := hK.new 3 1 _ 61 _ rfl rfl rfl (by kernel_rfl) (waits haft 3 (by kernel_rfl))
                  have t62 := hK.new 4 0 _ 62 _ rfl rfl rfl (by kernel_rfl) (waits haft 4 (by kernel_rfl))
                  (try dsimp only at t61 t62)
                  refine go_in (wanted_all rfl) ?_
                  intro K hk
                  clear haft hK hLi
                  go_simp
                  exact hk.out gg x (fun _ _ => rfl) (hS.go)
                · intro i hi; exact Or.inl (fun _ _ _ => rfl)
                refine' LinAll.cons _ ?_ ?_ ?_
                rotate_left 1
                · intro gg L a x hLi haft hS hK
                  have t63 := hK.new 5 0 _ 63 _ rfl rfl rfl (by kernel_rfl) (waits haft 5 (by kernel_rfl))
                  (try dsimp only at t63)
                  refine go_in (wanted_all rfl) ?_
                  intro K hk
                  clear haft hK hLi
                  go_simp
                  exact hk.out gg x (fun _ _ => rfl) (hS.go)
                · intro i hi; exact Or.inl (fun _ _ _ => rfl)
                refine' LinAll.cons _ ?_ ?_ ?_
                rotate_left 1
                · intro gg L a x hLi haft hS hK
                  have t64 := hK.new 6 0 _ 64 _ rfl rfl rfl (by kernel_rfl) (waits haft 6 (by kernel_rfl))
                  (try dsimp only at t64)
                  have cX := bel_cell hS.bel lr d2
                  refine go_in (wanted_all rfl) ?_
                  intro K hk
                  clear haft hK hLi
                  go_simp
                  exact hk.out gg x (fun _ _ => rfl) (hS.go)
                · intro i hi; exact Or.inl (fun _ _ _ => rfl)
                refine' LinAll.cons _ ?_ ?_ ?_
                rotate_left 1
                · intro gg L a x hLi haft hS hK
                  have t5 := (hK.old 5 (by kernel_rfl)).trans o5
                  (try dsimp only at t5)
                  refine go_in (wanted_all rfl) ?_
                  intro K hk
                  clear haft hK hLi
                  go_simp
                  exact hk.out gg x (fun _ _ => rfl) (hS.go)
                · intro i hi; exact Or.inl (fun _ _ _ => rfl)
                refine' LinAll.cons _ ?_ ?_ ?_
                rotate_left 1
                · intro gg L a x hLi haft hS hK
                  have t66 := hK.new 8 0 _ 66 _ rfl rfl rfl (by kernel_rfl) (waits haft 8 (by kernel_rfl))
                  (try dsimp only at t66)
                  refine go_in (wanted_all rfl) ?_
                  intro K hk
                  clear haft hK hLi
                  go_simp
                  exact hk.out gg x (fun _ _ => rfl) (hS.go)
                · intro i hi; exact Or.inl (fun _ _ _ => rfl)
                refine' LinAll.cons _ ?_ ?_ ?_
                rotate_left 1
                · intro gg L a x hLi haft hS hK
                  have t67 := hK.new 9 0 _ 67 _ rfl rfl rfl (by kernel_rfl) (waits haft 9 (by kernel_rfl))
                  (try dsimp only at t67)
                  refine go_in (wanted_all rfl) ?_
                  intro K hk
                  clear haft hK hLi
                  go_simp
                  exact hk.out gg x (fun _ _ => rfl) (hS.go)
                · intro i hi; exact Or.inl (fun _ _ _ => rfl)
                refine' LinAll.cons _ ?_ ?_ ?_
                rotate_left 1
                · intro gg L a x hLi haft hS hK
                  have t68 := hK.new 10 0 _ 68 _ rfl rfl rfl (by kernel_rfl) (waits haft 10 (by kernel_rfl))
                  (try dsimp only at t68)
                  have cX := bel_cell hS.bel lwz c3z
                  refine go_in (wanted_all rfl) ?_
                  intro K hk
                  clear haft hK hLi
                  go_simp
                  exact hk.out gg x (fun _ _ => rfl) (hS.go)
                · intro i hi; exact Or.inl (fun _ _ _ => rfl)
                refine' LinAll.cons _ ?_ ?_ ?_
                rotate_left 1
                · intro gg L a x hLi haft hS hK
                  have t8 := (hK.old 8 (by kernel_rfl)).trans o8
                  (try dsimp only at t8)
                  refine go_in (wanted_all rfl) ?_
                  intro K hk
                  clear haft hK hLi
                  go_simp
                  exact hk.out gg x (fun _ _ => rfl) (hS.go)
                · intro i hi; exact Or.inl (fun _ _ _ => rfl)
                refine' LinAll.cons _ ?_ ?_ ?_
                rotate_left 1
                · intro gg L a x hLi haft hS hK
                  have t69 := hK.new 11 1 _ 69 _ rfl rfl rfl (by kernel_rfl) (waits haft 11 (by kernel_rfl))
                  have t70 := hK.new 12 0 _ 70 _ rfl rfl rfl (by kernel_rfl) (waits haft 12 (by kernel_rfl))
                  (try dsimp only at t69 t70)
                  refine go_in (wanted_all rfl) ?_
                  intro K hk
                  clear haft hK hLi
                  go_simp
                  exact hk.out gg x (fun _ _ => rfl) (hS.go)
                · intro i hi; exact Or.inl (fun _ _ _ => rfl)
                refine' LinAll.cons _ ?_ ?_ ?_
                rotate_left 1
                · intro gg L a x hLi haft hS hK
                  have t71 := hK.new 13 0 _ 71 _ rfl rfl rfl (by kernel_rfl) (waits haft 13 (by kernel_rfl))
                  (try dsimp only at t71)
                  refine go_in (wanted_all rfl) ?_
                  intro K hk
                  clear haft hK hLi
                  go_simp
                  exact hk.out gg x (fun _ _ => rfl) (hS.go)
                · intro i hi; exact Or.inl (fun _ _ _ => rfl)
                refine' LinAll.cons _ ?_ ?_ ?_
                rotate_left 1
                · intro gg L a x hLi haft hS hK
                  have t72 := hK.new 14 0 _ 72 _ rfl rfl rfl (by kernel_rfl) (waits haft 14 (by kernel_rfl))
                  (try dsimp only at t72)
                  have cX := bel_cell hS.bel lrj d0
                  refine go_in (wanted_all rfl) ?_
                  intro K hk
                  clear haft hK hLi
                  go_simp
                  exact hk.out gg x (fun _ _ => rfl) (hS.go)
                · intro i hi; exact Or.inl (fun _ _ _ => rfl)
                refine LinAll.cons (fun _ => .bool bb) ?_ ?_ ?_
                · intro gg L a x hLi haft hS hK
                  have t65 := hK.new 7 8 _ 65 _ rfl rfl rfl (by kernel_rfl) (waits haft 7 (by kernel_rfl))
                  have t73 := hK.new 15 0 _ 73 _ rfl rfl rfl (by kernel_rfl) (waits haft 15 (by kernel_rfl))
                  (try dsimp only at t65 t73)
                  refine go_in (wanted_all rfl) ?_
                  intro K hk
                  clear haft hK hLi
                  go_simp
                  exact hk.out gg x (fun _ _ => rfl) hS.go
                · intro i hi; exact Or.inl (fun _ _ _ => rfl)
                refine' LinAll.cons _ ?_ ?_ ?_
                rotate_left 1
                · intro gg L a x hLi haft hS hK
                  have t5 := (hK.old 5 (by kernel_rfl)).trans o5
                  (try dsimp only at t5)
                  refine go_in (wanted_all rfl) ?_
                  intro K hk
                  clear haft hK hLi
                  go_simp
                  exact hk.out gg x (fun _ _ => rfl) (hS.go)
                · intro i hi; exact Or.inl (fun _ _ _ => rfl)
                refine' LinAll.cons _ ?_ ?_ ?_
                rotate_left 1
                · intro gg L a x hLi haft hS hK
                  have t75 := hK.new 17 0 _ 75 _ rfl rfl rfl (by kernel_rfl) (waits haft 17 (by kernel_rfl))
                  (try dsimp only at t75)
                  refine go_in (wanted_all rfl) ?_
                  intro K hk
                  clear haft hK hLi
                  go_simp
                  exact hk.out gg x (fun _ _ => rfl) (hS.go)
                · intro i hi; exact Or.inl (fun _ _ _ => rfl)
                refine' LinAll.cons _ ?_ ?_ ?_
                rotate_left 1
                · intro gg L a x hLi haft hS hK
                  have t76 := hK.new 18 0 _ 76 _ rfl rfl rfl (by kernel_rfl) (waits haft 18 (by kernel_rfl))
                  (try dsimp only at t76)
                  refine go_in (wanted_all rfl) ?_
                  intro K hk
                  clear haft hK hLi
                  go_simp
                  exact hk.out gg x (fun _ _ => rfl) (hS.go)
                · intro i hi; exact Or.inl (fun _ _ _ => rfl)
                refine' LinAll.cons _ ?_ ?_ ?_
                rotate_left 1
                · intro gg L a x hLi haft hS hK
                  have t77 := hK.new 19 0 _ 77 _ rfl rfl rfl (by kernel_rfl) (waits haft 19 (by kernel_rfl))
                  (try dsimp only at t77)
                  have cX := bel_cell hS.bel lwz c3z
                  refine go_in (wanted_all rfl) ?_
                  intro K hk
                  clear haft hK hLi
                  go_simp
                  exact hk.out gg x (fun _ _ => rfl) (hS.go)
                · intro i hi; exact Or.inl (fun _ _ _ => rfl)
                refine' LinAll.cons _ ?_ ?_ ?_
                rotate_left 1
                · intro gg L a x hLi haft hS hK
                  have t7 := (hK.old 7 (by kernel_rfl)).trans o7
                  (try dsimp only at t7)
                  refine go_in (wanted_all rfl) ?_
                  intro K hk
                  clear haft hK hLi
                  go_simp
                  exact hk.out gg x (fun _ _ => rfl) (hS.go)
                · intro i hi; exact Or.inl (fun _ _ _ => rfl)
                refine' LinAll.cons _ ?_ ?_ ?_
                rotate_left 1
                · intro gg L a x hLi haft hS hK
                  have t78 := hK.new 20 1 _ 78 _ rfl rfl rfl (by kernel_rfl) (waits haft 20 (by kernel_rfl))
                  have t79 := hK.new 21 0 _ 79 _ rfl rfl rfl (by kernel_rfl) (waits haft 21 (by kernel_rfl))
                  (try dsimp only at t78 t79)
                  refine go_in (wanted_all rfl) ?_
                  intro K hk
                  clear haft hK hLi
                  go_simp
                  exact hk.out gg x (fun _ _ => rfl) (hS.go)
                · intro i hi; exact Or.inl (fun _ _ _ => rfl)
                refine' LinAll.cons _ ?_ ?_ ?_
                rotate_left 1
                · intro gg L a x hLi haft hS hK
                  have t80 := hK.new 22 0 _ 80 _ rfl rfl rfl (by kernel_rfl) (waits haft 22 (by kernel_rfl))
                  (try dsimp only at t80)
                  refine go_in (wanted_all rfl) ?_
                  intro K hk
                  clear haft hK hLi
                  go_simp
                  exact hk.out gg x (fun _ _ => rfl) (hS.go)
                · intro i hi; exact Or.inl (fun _ _ _ => rfl)
                refine' LinAll.cons _ ?_ ?_ ?_
                rotate_left 1
                · intro gg L a x hLi haft hS hK
                  have t81 := hK.new 23 0 _ 81 _ rfl rfl rfl (by kernel_rfl) (waits haft 23 (by kernel_rfl))
                  (try dsimp only at t81)
                  have cX := bel_cell hS.bel lr d3
                  refine go_in (wanted_all rfl) ?_
                  intro K hk
                  clear haft hK hLi
                  go_simp
                  exact hk.out gg x (fun _ _ => rfl) (hS.go)
                · intro i hi; exact Or.inl (fun _ _ _ => rfl)
                refine' LinAll.cons _ ?_ ?_ ?_
                rotate_left 1
                · intro gg L a x hLi haft hS hK
                  have t5 := (hK.old 5 (by kernel_rfl)).trans o5
                  (try dsimp only at t5)
                  refine go_in (wanted_all rfl) ?_
                  intro K hk
                  clear haft hK hLi
                  go_simp
                  exact hk.out gg x (fun _ _ => rfl) (hS.go)
                · intro i hi; exact Or.inl (fun _ _ _ => rfl)
                refine' LinAll.cons _ ?_ ?_ ?_
                rotate_left 1
                · intro gg L a x hLi haft hS hK
                  have t83 := hK.new 25 0 _ 83 _ rfl rfl rfl (by kernel_rfl) (waits haft 25 (by kernel_rfl))
                  (try dsimp only at t83)
                  refine go_in (wanted_all rfl) ?_
                  intro K hk
                  clear haft hK hLi
                  go_simp
                  exact hk.out gg x (fun _ _ => rfl) (hS.go)
                · intro i hi; exact Or.inl (fun _ _ _ => rfl)
                refine' LinAll.cons _ ?_ ?_ ?_
                rotate_left 1
                · intro gg L a x hLi haft hS hK
                  have t84 := hK.new 26 0 _ 84 _ rfl rfl rfl (by kernel_rfl) (waits haft 26 (by kernel_rfl))
                  (try dsimp only at t84)
                  refine go_in (wanted_all rfl) ?_
                  intro K hk
                  clear haft hK hLi
                  go_simp
                  exact hk.out gg x (fun _ _ => rfl) (hS.go)
                · intro i hi; exact Or.inl (fun _ _ _ => rfl)
                refine' LinAll.cons _ ?_ ?_ ?_
                rotate_left 1
                · intro gg L a x hLi haft hS hK
                  have t85 := hK.new 27 0 _ 85 _ rfl rfl rfl (by kernel_rfl) (waits haft 27 (by kernel_rfl))
                  (try dsimp only at t85)
                  have cX := bel_cell hS.bel lwz c3z
                  refine go_in (wanted_all rfl) ?_
                  intro K hk
                  clear haft hK hLi
                  go_simp
                  exact hk.out gg x (fun _ _ => rfl) (hS.go)
                · intro i hi; exact Or.inl (fun _ _ _ => rfl)
                refine' LinAll.cons _ ?_ ?_ ?_
                rotate_left 1
                · intro gg L a x hLi haft hS hK
                  have t8 := (hK.old 8 (by kernel_rfl)).trans o8
                  (try dsimp only at t8)
                  refine go_in (wanted_all rfl) ?_
                  intro K hk
                  clear haft hK hLi
                  go_simp
                  exact hk.out gg x (fun _ _ => rfl) (hS.go)
                · intro i hi; exact Or.inl (fun _ _ _ => rfl)
                refine' LinAll.cons _ ?_ ?_ ?_
                rotate_left 1
                · intro gg L a x hLi haft hS hK
                  have t86 := hK.new 28 1 _ 86 _ rfl rfl rfl (by kernel_rfl) (waits haft 28 (by kernel_rfl))
                  have t87 := hK.new 29 0 _ 87 _ rfl rfl rfl (by kernel_rfl) (waits haft 29 (by kernel_rfl))
                  (try dsimp only at t86 t87)
                  refine go_in (wanted_all rfl) ?_
                  intro K hk
                  clear haft hK hLi
                  go_simp
                  exact hk.out gg x (fun _ _ => rfl) (hS.go)
                · intro i hi; exact Or.inl (fun _ _ _ => rfl)
                refine' LinAll.cons _ ?_ ?_ ?_
                rotate_left 1
                · intro gg L a x hLi haft hS hK
                  have t88 := hK.new 30 0 _ 88 _ rfl rfl rfl (by kernel_rfl) (waits haft 30 (by kernel_rfl))
                  (try dsimp only at t88)
                  refine go_in (wanted_all rfl) ?_
                  intro K hk
                  clear haft hK hLi
                  go_simp
                  exact hk.out gg x (fun _ _ => rfl) (hS.go)
                · intro i hi; exact Or.inl (fun _ _ _ => rfl)
                refine' LinAll.cons _ ?_ ?_ ?_
                rotate_left 1
                · intro gg L a x hLi haft hS hK
                  have t89 := hK.new 31 0 _ 89 _ rfl rfl rfl (by kernel_rfl) (waits haft 31 (by kernel_rfl))
                  (try dsimp only at t89)
                  have cX := bel_cell hS.bel lrj d1
                  refine go_in (wanted_all rfl) ?_
                  intro K hk
                  clear haft hK hLi
                  go_simp
                  exact hk.out gg x (fun _ _ => rfl) (hS.go)
                · intro i hi; exact Or.inl (fun _ _ _ => rfl)
                refine LinAll.cons (fun _ => .bool bb) ?_ ?_ ?_
                · intro gg L a x hLi haft hS hK
                  have t82 := hK.new 24 8 _ 82 _ rfl rfl rfl (by kernel_rfl) (waits haft 24 (by kernel_rfl))
                  have t90 := hK.new 32 0 _ 90 _ rfl rfl rfl (by kernel_rfl) (waits haft 32 (by kernel_rfl))
                  (try dsimp only at t82 t90)
                  refine go_in (wanted_all rfl) ?_
                  intro K hk
                  have hCX := HSM.out x hS.bel
                  clear haft hK hLi
                  go_simp
                  refine Calls.mono hCX ?_
                  rintro e y ⟨rfl, hy⟩
                  exact hk.out gg y (fun _ _ => rfl) (hS.called hy)
                · intro i hi; exact Or.inl (fun _ _ _ => rfl)
                refine' LinAll.cons _ ?_ ?_ ?_
                rotate_left 1
                · intro gg L a x hLi haft hS hK
                  have t74 := hK.new 16 17 _ 74 _ rfl rfl rfl (by kernel_rfl) (waits haft 16 (by kernel_rfl))
                  have t91 := hK.new 33 0 _ 91 _ rfl rfl rfl (by kernel_rfl) (waits haft 33 (by kernel_rfl))
                  (try dsimp only at t74 t91)
                  refine go_in (wanted_all rfl) ?_
                  intro K hk
                  clear haft hK hLi
                  go_simp
                  exact hk.out gg x (fun _ _ => rfl) (hS.go)
                · intro i hi; exact Or.inl (fun _ _ _ => rfl)
                refine LinAll.nil fun gg Y0 hS => ?_
                subst ha0
                simp only [Act.put, List.setIfInBounds_toArray, List.set_cons_zero, List.set_cons_succ]
                clear o5 o7 o8
                have HZ2 : Hid (Below wa.heap.size wa Y0) := hZ.out.trans (hS.bel.mono hZ.out.size)
                clear hS c3z d0 d1 d2 d3
                have hjB : (j : Int) < 1000 := by have := HLT.out; omega
                go_wp2_with fail
                exact ⟨⟨j + 1, by omega, by go_num, HZ2.out⟩, by simp [intOf]; omega⟩
              · have hjI : decide ((j : Int) < (k : Int)) = false := by simp; omega
                go_wp2_with fail
                go_meet
                case rel => exact hZ
          case rest =>
            go_upto_region 18 with fail
            have hz := HK.out.below hcut.out
            obtain ⟨m0, -, c3, -, lw, -⟩ := hz.cells
            obtain ⟨lr, d2, -⟩ := hz.hl.get' HPK.out
            dsimp only at d2
            obtain ⟨ak, etk⟩ := HPU.out.al _ (List.mem_of_getElem? HPK.out)
            dsimp only at ak etk
            have gd := HK.out.rm.good
            have hnd : ∀ x, Below wa.heap.size wa x → Calls Tryd.prog 24 #[.pointer (some ⟨g, 0, none⟩), .int .i64 fk] x fun e w' => e = .returned (.tuple (nodF S.ns fk)) ∧ Below x.heap.size x w' := fun x hb => nod_any (HK.out.below hb).rm.gr fk
            by_cases hf2 : 2 ≤ fk
            · obtain ⟨q1, q2, q3, q4, q5, q6, q7⟩ := gd.nd fk hf2 ak
              have hst := fun x => val_step gd x ak hf2
              obtain ⟨vN, hvN⟩ : ∃ vN : Nat, vN = topT tk n := ⟨_, rfl⟩
              have hv : (at3 S.ns fk).1 = (vN : Int) := by rw [hvN, etk]; exact (top_tab (by omega) gd ak).symm
              rw [show nodF S.ns fk = _ from if_pos ⟨hf2, ak⟩, hv] at hnd
              rw [hv] at hst q2
              obtain ⟨lo, hlo⟩ : ∃ lo, lo = (at3 S.ns fk).2.1 := ⟨_, rfl⟩
              obtain ⟨hi, hhi⟩ : ∃ hi, hi = (at3 S.ns fk).2.2 := ⟨_, rfl⟩
              rw [← hlo, ← hhi] at hnd hst q3
              rw [← hlo] at q4
              rw [← hhi] at q5
              have HND : Hid _ := hnd
              have HQ4 : Hid _ := q4
              have HQ5 : Hid _ := q5
              have HST : Hid _ := hst
              have hlh : (lo == hi) = false := by simp; exact q3
              have hf1 : (1 : Int) < fk := by omega
              have hvn : vN < n := by omega
              have HN1 : Hid (0 < n) := by unfold Hid; omega
              have hlk : lk = N2 n := by
                obtain ⟨r, cs, e, -⟩ := HTK.out.ex
                injection e with _ e _
                rw [e, etk, tabV_len]
              have HLK : Hid (lk = N2 n) := hlk
              have HTL : Hid (tk.length = N2 n) := by unfold Hid; rw [etk, tabV_len]
              have HETK : Hid _ := etk
              have HTP : Hid (∀ x, Below wa.heap.size wa x → Calls Tryd.prog 25 #[.slice (some ⟨rk, 0, none⟩) lk lk, .int .i64 (n : Int)] x fun e w' => e = .returned (.int .i64 (vN : Int)) ∧ Below x.heap.size x w') := fun x hb => by
                have := top_any' (HTK.out.bz.bel hb) HTL.out (show n ≤ 7 by omega)
                rw [← hvN] at this
                exact this
              clear hnd hst q1 q2 q3 q4 q5 q6 q7 hv hvN hlo hhi hlk etk ak gd hz hf2
              refine wp_named fun a0 ha0 => ?_
              have o5 := old_at ha0 (t := 5) rfl
              have o7 := old_at ha0 (t := 7) rfl
              refine wp_region_lin (S := BW wc) [] (fun _ => 0) (by kernel_rfl) (by kernel_rfl) (by rw [← ha0]; kernel_rfl) (BW.start (W := wc)) ?_
              refine' LinAll.cons _ ?_ ?_ ?_
              rotate_left 1
              · intro gg L a x hLi haft hS hK
                have t5 := (hK.old 5 (by kernel_rfl)).trans o5
                (try dsimp only at t5)
                refine go_in (wanted_all rfl) ?_
                intro K hk
                clear haft hK hLi
                go_simp
                exact hk.out gg x (fun _ _ => rfl) (hS.go)
              · intro i hi; exact Or.inl (fun _ _ _ => rfl)
              refine' LinAll.cons _ ?_ ?_ ?_
              rotate_left 1
              · intro gg L a x hLi haft hS hK
                have t94 := hK.new 0 0 _ 94 _ rfl rfl rfl (by kernel_rfl) (waits haft 0 (by kernel_rfl))
                (try dsimp only at t94)
                refine go_in (wanted_all rfl) ?_
                intro K hk
                clear haft hK hLi
                go_simp
                exact hk.out gg x (fun _ _ => rfl) (hS.go)
              · intro i hi; exact Or.inl (fun _ _ _ => rfl)
              refine' LinAll.cons _ ?_ ?_ ?_
              rotate_left 1
              · intro gg L a x hLi haft hS hK
                have t95 := hK.new 1 0 _ 95 _ rfl rfl rfl (by kernel_rfl) (waits haft 1 (by kernel_rfl))
                (try dsimp only at t95)
                refine go_in (wanted_all rfl) ?_
                intro K hk
                clear haft hK hLi
                go_simp
                exact hk.out gg x (fun _ _ => rfl) (hS.go)
              · intro i hi; exact Or.inl (fun _ _ _ => rfl)
              refine' LinAll.cons _ ?_ ?_ ?_
              rotate_left 1
              · intro gg L a x hLi haft hS hK
                have t96 := hK.new 2 0 _ 96 _ rfl rfl rfl (by kernel_rfl) (waits haft 2 (by kernel_rfl))
                (try dsimp only at t96)
                have cX := bel_cell hS.bel lw m0
                refine go_in (wanted_all rfl) ?_
                intro K hk
                clear haft hK hLi
                go_simp
                exact hk.out gg x (fun _ _ => rfl) (hS.go)
              · intro i hi; exact Or.inl (fun _ _ _ => rfl)
              refine' LinAll.cons _ ?_ ?_ ?_
              rotate_left 1
              · intro gg L a x hLi haft hS hK
                have t5 := (hK.old 5 (by kernel_rfl)).trans o5
                (try dsimp only at t5)
                refine go_in (wanted_all rfl) ?_
                intro K hk
                clear haft hK hLi
                go_simp
                exact hk.out gg x (fun _ _ => rfl) (hS.go)
              · intro i hi; exact Or.inl (fun _ _ _ => rfl)
              refine' LinAll.cons _ ?_ ?_ ?_
              rotate_left 1
              · intro gg L a x hLi haft hS hK
                have t98 := hK.new 4 0 _ 98 _ rfl rfl rfl (by kernel_rfl) (waits haft 4 (by kernel_rfl))
                (try dsimp only at t98)
                refine go_in (wanted_all rfl) ?_
                intro K hk
                clear haft hK hLi
                go_simp
                exact hk.out gg x (fun _ _ => rfl) (hS.go)
              · intro i hi; exact Or.inl (fun _ _ _ => rfl)
              refine' LinAll.cons _ ?_ ?_ ?_
              rotate_left 1
              · intro gg L a x hLi haft hS hK
                have t99 := hK.new 5 0 _ 99 _ rfl rfl rfl (by kernel_rfl) (waits haft 5 (by kernel_rfl))
                (try dsimp only at t99)
                refine go_in (wanted_all rfl) ?_
                intro K hk
                clear haft hK hLi
                go_simp
                exact hk.out gg x (fun _ _ => rfl) (hS.go)
              · intro i hi; exact Or.inl (fun _ _ _ => rfl)
              refine' LinAll.cons _ ?_ ?_ ?_
              rotate_left 1
              · intro gg L a x hLi haft hS hK
                have t100 := hK.new 6 0 _ 100 _ rfl rfl rfl (by kernel_rfl) (waits haft 6 (by kernel_rfl))
                (try dsimp only at t100)
                have cX := bel_cell hS.bel lw c3
                refine go_in (wanted_all rfl) ?_
                intro K hk
                clear haft hK hLi
                go_simp
                exact hk.out gg x (fun _ _ => rfl) (hS.go)
              · intro i hi; exact Or.inl (fun _ _ _ => rfl)
              refine' LinAll.cons _ ?_ ?_ ?_
              rotate_left 1
              · intro gg L a x hLi haft hS hK
                have t7 := (hK.old 7 (by kernel_rfl)).trans o7
                (try dsimp only at t7)
                refine go_in (wanted_all rfl) ?_
                intro K hk
                clear haft hK hLi
                go_simp
                exact hk.out gg x (fun _ _ => rfl) (hS.go)
              · intro i hi; exact Or.inl (fun _ _ _ => rfl)
              refine' LinAll.cons _ ?_ ?_ ?_
              rotate_left 1
              · intro gg L a x hLi haft hS hK
                have t101 := hK.new 7 1 _ 101 _ rfl rfl rfl (by kernel_rfl) (waits haft 7 (by kernel_rfl))
                have t102 := hK.new 8 0 _ 102 _ rfl rfl rfl (by kernel_rfl) (waits haft 8 (by kernel_rfl))
                (try dsimp only at t101 t102)
                refine go_in (wanted_all rfl) ?_
                intro K hk
                clear haft hK hLi
                go_simp
                exact hk.out gg x (fun _ _ => rfl) (hS.go)
              · intro i hi; exact Or.inl (fun _ _ _ => rfl)
              refine' LinAll.cons _ ?_ ?_ ?_
              rotate_left 1
              · intro gg L a x hLi haft hS hK
                have t103 := hK.new 9 0 _ 103 _ rfl rfl rfl (by kernel_rfl) (waits haft 9 (by kernel_rfl))
                (try dsimp only at t103)
                refine go_in (wanted_all rfl) ?_
                intro K hk
                clear haft hK hLi
                go_simp
                exact hk.out gg x (fun _ _ => rfl) (hS.go)
              · intro i hi; exact Or.inl (fun _ _ _ => rfl)
              refine' LinAll.cons _ ?_ ?_ ?_
              rotate_left 1
              · intro gg L a x hLi haft hS hK
                have t104 := hK.new 10 0 _ 104 _ rfl rfl rfl (by kernel_rfl) (waits haft 10 (by kernel_rfl))
                (try dsimp only at t104)
                have cX := bel_cell hS.bel lr d2
                refine go_in (wanted_all rfl) ?_
                intro K hk
                clear haft hK hLi
                go_simp
                exact hk.out gg x (fun _ _ => rfl) (hS.go)
              · intro i hi; exact Or.inl (fun _ _ _ => rfl)
              refine LinAll.cons (fun _ => .tuple #[.int .i64 (vN : Int), .int .i64 lo, .int .i64 hi, .bool true]) ?_ ?_ ?_
              · intro gg L a x hLi haft hS hK
                have t97 := hK.new 3 8 _ 97 _ rfl rfl rfl (by kernel_rfl) (waits haft 3 (by kernel_rfl))
                have t105 := hK.new 11 0 _ 105 _ rfl rfl rfl (by kernel_rfl) (waits haft 11 (by kernel_rfl))
                (try dsimp only at t97 t105)
                refine go_in (wanted_all rfl) ?_
                intro K hk
                have hCX := HND.out x (hcut.out.trans (hS.bel.mono hcut.out.size))
                clear haft hK hLi
                go_simp
                refine Calls.mono hCX ?_
                rintro e y ⟨rfl, hy⟩
                exact hk.out gg y (fun _ _ => rfl) (hS.called hy)
              · intro i hi; exact Or.inl (fun _ _ _ => rfl)
              refine' LinAll.cons _ ?_ ?_ ?_
              rotate_left 1
              · intro gg L a x hLi haft hS hK
                have t106 := hK.new 12 0 _ 106 _ rfl rfl rfl (by kernel_rfl) (waits haft 12 (by kernel_rfl))
                (try dsimp only at t106)
                refine go_in (wanted_all rfl) ?_
                intro K hk
                clear haft hK hLi
                go_simp
                exact hk.out gg x (fun _ _ => rfl) (hS.go)
              · intro i hi; exact Or.inl (fun _ _ _ => rfl)
              refine' LinAll.cons _ ?_ ?_ ?_
              rotate_left 1
              · intro gg L a x hLi haft hS hK
                have t93 := hK.new 13 0 _ 93 _ rfl rfl rfl (by kernel_rfl) (waits haft 13 (by kernel_rfl))
                (try dsimp only at t93)
                refine go_in (wanted_all rfl) ?_
                intro K hk
                clear haft hK hLi
                go_simp
                exact hk.out gg x (fun _ _ => rfl) (hS.go)
              · intro i hi; exact Or.inl (fun _ _ _ => rfl)
              refine' LinAll.cons _ ?_ ?_ ?_
              rotate_left 1
              · intro gg L a x hLi haft hS hK
                have t93 := hK.new 13 1 _ 93 _ rfl rfl rfl (by kernel_rfl) (waits haft 13 (by kernel_rfl))
                (try dsimp only at t93)
                refine go_in (wanted_all rfl) ?_
                intro K hk
                clear haft hK hLi
                go_simp
                exact hk.out gg x (fun _ _ => rfl) (hS.go)
              · intro i hi; exact Or.inl (fun _ _ _ => rfl)
              refine' LinAll.cons _ ?_ ?_ ?_
              rotate_left 1
              · intro gg L a x hLi haft hS hK
                have t93 := hK.new 13 2 _ 93 _ rfl rfl rfl (by kernel_rfl) (waits haft 13 (by kernel_rfl))
                (try dsimp only at t93)
                refine go_in (wanted_all rfl) ?_
                intro K hk
                clear haft hK hLi
                go_simp
                exact hk.out gg x (fun _ _ => rfl) (hS.go)
              · intro i hi; exact Or.inl (fun _ _ _ => rfl)
              refine' LinAll.cons _ ?_ ?_ ?_
              rotate_left 1
              · intro gg L a x hLi haft hS hK
                have t93 := hK.new 13 3 _ 93 _ rfl rfl rfl (by kernel_rfl) (waits haft 13 (by kernel_rfl))
                (try dsimp only at t93)
                refine go_in (wanted_all rfl) ?_
                intro K hk
                clear haft hK hLi
                go_simp
                exact hk.out gg x (fun _ _ => rfl) (hS.go)
              · intro i hi; exact Or.inl (fun _ _ _ => rfl)
              refine' LinAll.cons _ ?_ ?_ ?_
              rotate_left 1
              · intro gg L a x hLi haft hS hK
                have t107 := hK.new 14 3 _ 107 _ rfl rfl rfl (by kernel_rfl) (waits haft 14 (by kernel_rfl))
                (try dsimp only at t107)
                refine go_in (wanted_all rfl) ?_
                intro K hk
                clear haft hK hLi
                go_simp
                exact hk.out gg x (fun _ _ => rfl) (hS.go)
              · intro i hi; exact Or.inl (fun _ _ _ => rfl)
              refine' LinAll.cons _ ?_ ?_ ?_
              rotate_left 1
              · intro gg L a x hLi haft hS hK
                have t108 := hK.new 15 3 _ 108 _ rfl rfl rfl (by kernel_rfl) (waits haft 15 (by kernel_rfl))
                (try dsimp only at t108)
                refine go_in (wanted_all rfl) ?_
                intro K hk
                clear haft hK hLi
                go_simp
                exact hk.out gg x (fun _ _ => rfl) (hS.go)
              · intro i hi; exact Or.inl (fun _ _ _ => rfl)
              refine' LinAll.cons _ ?_ ?_ ?_
              rotate_left 1
              · intro gg L a x hLi haft hS hK
                have t109 := hK.new 16 3 _ 109 _ rfl rfl rfl (by kernel_rfl) (waits haft 16 (by kernel_rfl))
                (try dsimp only at t109)
                refine go_in (wanted_all rfl) ?_
                intro K hk
                clear haft hK hLi
                go_simp
                exact hk.out gg x (fun _ _ => rfl) (hS.go)
              · intro i hi; exact Or.inl (fun _ _ _ => rfl)
              refine' LinAll.cons _ ?_ ?_ ?_
              rotate_left 1
              · intro gg L a x hLi haft hS hK
                have t110 := hK.new 17 3 _ 110 _ rfl rfl rfl (by kernel_rfl) (waits haft 17 (by kernel_rfl))
                (try dsimp only at t110)
                refine go_in (wanted_all rfl) ?_
                intro K hk
                clear haft hK hLi
                go_simp
                exact hk.out gg x (fun _ _ => rfl) (hS.go)
              · intro i hi; exact Or.inl (fun _ _ _ => rfl)
              refine LinAll.nil fun gg Y1 hS => ?_
              subst ha0
              simp only [Act.put, List.setIfInBounds_toArray, List.set_cons_zero, List.set_cons_succ]
              clear o5 o7
              have HB1Y : Hid (Below wa.heap.size wa Y1) := hcut.out.trans (hS.bel.mono hcut.out.size)
              have hz := HK.out.below HB1Y.out
              obtain ⟨-, m1', c3', -, lw1, -⟩ := hz.cells
              obtain ⟨lr1, d2', d3'⟩ := hz.hl.get' HPK.out
              dsimp only at d2' d3'
              clear hS hz m0 c3 lw lr d2
              go_upto_region 19 with fail
              refine wp_named fun a0 ha0 => ?_
              have o5 := old_at ha0 (t := 5) rfl
              have o7 := old_at ha0 (t := 7) rfl
              have o9 := old_at ha0 (t := 9) rfl
              have o10 := old_at ha0 (t := 10) rfl
              have o11 := old_at ha0 (t := 11) rfl
              have o12 := old_at ha0 (t := 12) rfl
              refine wp_region_lin (S := BW Y1) [] (fun _ => 0) (by kernel_rfl) (by kernel_rfl) (by rw [← ha0]; kernel_rfl) (BW.start) ?_
              refine' LinAll.cons _ ?_ ?_ ?_
              rotate_left 1
              · intro gg L a x hLi haft hS hK
                have t12 := (hK.old 12 (by kernel_rfl)).trans o12
                (try dsimp only at t12)
                refine go_in (wanted_all rfl) ?_
                intro K hk
                clear haft hK hLi
                go_simp
                exact hk.out gg x (fun _ _ => rfl) (hS.go)
              · intro i hi; exact Or.inl (fun _ _ _ => rfl)
              refine' LinAll.cons _ ?_ ?_ ?_
              rotate_left 1
              · intro gg L a x hLi haft hS hK
                have t5 := (hK.old 5 (by kernel_rfl)).trans o5
                (try dsimp only at t5)
                refine go_in (wanted_all rfl) ?_
                intro K hk
                clear haft hK hLi
                go_simp
                exact hk.out gg x (fun _ _ => rfl) (hS.go)
              · intro i hi; exact Or.inl (fun _ _ _ => rfl)
              refine' LinAll.cons _ ?_ ?_ ?_
              rotate_left 1
              · intro gg L a x hLi haft hS hK
                have t112 := hK.new 1 0 _ 112 _ rfl rfl rfl (by kernel_rfl) (waits haft 1 (by kernel_rfl))
                (try dsimp only at t112)
                refine go_in (wanted_all rfl) ?_
                intro K hk
                clear haft hK hLi
                go_simp
                exact hk.out gg x (fun _ _ => rfl) (hS.go)
              · intro i hi; exact Or.inl (fun _ _ _ => rfl)
              refine' LinAll.cons _ ?_ ?_ ?_
              rotate_left 1
              · intro gg L a x hLi haft hS hK
                have t113 := hK.new 2 0 _ 113 _ rfl rfl rfl (by kernel_rfl) (waits haft 2 (by kernel_rfl))
                (try dsimp only at t113)
                refine go_in (wanted_all rfl) ?_
                intro K hk
                clear haft hK hLi
                go_simp
                exact hk.out gg x (fun _ _ => rfl) (hS.go)
              · intro i hi; exact Or.inl (fun _ _ _ => rfl)
              refine' LinAll.cons _ ?_ ?_ ?_
              rotate_left 1
              · intro gg L a x hLi haft hS hK
                have t114 := hK.new 3 0 _ 114 _ rfl rfl rfl (by kernel_rfl) (waits haft 3 (by kernel_rfl))
                (try dsimp only at t114)
                have cX := bel_cell hS.bel lw1 c3'
                refine go_in (wanted_all rfl) ?_
                intro K hk
                clear haft hK hLi
                go_simp
                exact hk.out gg x (fun _ _ => rfl) (hS.go)
              · intro i hi; exact Or.inl (fun _ _ _ => rfl)
              refine' LinAll.cons _ ?_ ?_ ?_
              rotate_left 1
              · intro gg L a x hLi haft hS hK
                have t7 := (hK.old 7 (by kernel_rfl)).trans o7
                (try dsimp only at t7)
                refine go_in (wanted_all rfl) ?_
                intro K hk
                clear haft hK hLi
                go_simp
                exact hk.out gg x (fun _ _ => rfl) (hS.go)
              · intro i hi; exact Or.inl (fun _ _ _ => rfl)
              refine' LinAll.cons _ ?_ ?_ ?_
              rotate_left 1
              · intro gg L a x hLi haft hS hK
                have t115 := hK.new 4 1 _ 115 _ rfl rfl rfl (by kernel_rfl) (waits haft 4 (by kernel_rfl))
                have t116 := hK.new 5 0 _ 116 _ rfl rfl rfl (by kernel_rfl) (waits haft 5 (by kernel_rfl))
                (try dsimp only at t115 t116)
                refine go_in (wanted_all rfl) ?_
                intro K hk
                clear haft hK hLi
                go_simp
                exact hk.out gg x (fun _ _ => rfl) (hS.go)
              · intro i hi; exact Or.inl (fun _ _ _ => rfl)
              refine' LinAll.cons _ ?_ ?_ ?_
              rotate_left 1
              · intro gg L a x hLi haft hS hK
                have t117 := hK.new 6 0 _ 117 _ rfl rfl rfl (by kernel_rfl) (waits haft 6 (by kernel_rfl))
                (try dsimp only at t117)
                refine go_in (wanted_all rfl) ?_
                intro K hk
                clear haft hK hLi
                go_simp
                exact hk.out gg x (fun _ _ => rfl) (hS.go)
              · intro i hi; exact Or.inl (fun _ _ _ => rfl)
              refine' LinAll.cons _ ?_ ?_ ?_
              rotate_left 1
              · intro gg L a x hLi haft hS hK
                have t118 := hK.new 7 0 _ 118 _ rfl rfl rfl (by kernel_rfl) (waits haft 7 (by kernel_rfl))
                (try dsimp only at t118)
                have cX := bel_cell hS.bel lr1 d2'
                refine go_in (wanted_all rfl) ?_
                intro K hk
                clear haft hK hLi
                go_simp
                exact hk.out gg x (fun _ _ => rfl) (hS.go)
              · intro i hi; exact Or.inl (fun _ _ _ => rfl)
              refine LinAll.cons (fun _ => .bool true) ?_ ?_ ?_
              · intro gg L a x hLi haft hS hK
                have t119 := hK.new 8 0 _ 119 _ rfl rfl rfl (by kernel_rfl) (waits haft 8 (by kernel_rfl))
                (try dsimp only at t119)
                refine go_in (wanted_all rfl) ?_
                intro K hk
                clear haft hK hLi
                go_simp
                exact hk.out gg x (fun _ _ => rfl) hS.go
              · intro i hi; exact Or.inl (fun _ _ _ => rfl)
              refine LinAll.cons (fun _ => .bool false) ?_ ?_ ?_
              · intro gg L a x hLi haft hS hK
                have t111 := hK.new 0 9 _ 111 _ rfl rfl rfl (by kernel_rfl) (waits haft 0 (by kernel_rfl))
                have t120 := hK.new 9 0 _ 120 _ rfl rfl rfl (by kernel_rfl) (waits haft 9 (by kernel_rfl))
                (try dsimp only at t111 t120)
                refine go_in (wanted_all rfl) ?_
                intro K hk
                clear haft hK hLi
                go_simp
                exact hk.out gg x (fun _ _ => rfl) hS.go
              · intro i hi; exact Or.inl (fun _ _ _ => rfl)
              refine' LinAll.cons _ ?_ ?_ ?_
              rotate_left 1
              · intro gg L a x hLi haft hS hK
                have t121 := hK.new 10 0 _ 121 _ rfl rfl rfl (by kernel_rfl) (waits haft 10 (by kernel_rfl))
                (try dsimp only at t121)
                refine go_in (wanted_all rfl) ?_
                intro K hk
                clear haft hK hLi
                go_simp
                exact hk.out gg x (fun _ _ => rfl) (hS.go)
              · intro i hi; exact Or.inl (fun _ _ _ => rfl)
              refine' LinAll.cons _ ?_ ?_ ?_
              rotate_left 1
              · intro gg L a x hLi haft hS hK
                have t12 := (hK.old 12 (by kernel_rfl)).trans o12
                have tg := hK.new 11 0 _ 122 _ rfl rfl rfl (by kernel_rfl) (waits haft 11 (by kernel_rfl))
                (try dsimp only at t12)
                refine go_in (wanted_at rfl rfl rfl tg rfl) ?_
                intro K hk
                clear haft hK tg hLi
                go_simp
                exact hk.out gg x (fun _ _ => rfl) (hS.go)
              · intro i hi; exact Or.inl (fun _ _ _ => rfl)
              refine' LinAll.cons _ ?_ ?_ ?_
              rotate_left 1
              · intro gg L a x hLi haft hS hK
                have t123 := hK.new 12 0 _ 123 _ rfl rfl rfl (by kernel_rfl) (waits haft 12 (by kernel_rfl))
                have tg := hK.new 11 1 _ 122 _ rfl rfl rfl (by kernel_rfl) (waits haft 11 (by kernel_rfl))
                (try dsimp only at t123)
                refine go_in (wanted_at rfl rfl rfl tg rfl) ?_
                intro K hk
                clear haft hK tg hLi
                go_simp
                exact hk.out gg x (fun _ _ => rfl) (hS.go)
              · intro i hi; exact Or.inl (fun _ _ _ => rfl)
              refine' LinAll.cons _ ?_ ?_ ?_
              rotate_left 1
              · intro gg L a x hLi haft hS hK
                have t10 := (hK.old 10 (by kernel_rfl)).trans o10
                have tg := hK.new 13 0 _ 124 _ rfl rfl rfl (by kernel_rfl) (waits haft 13 (by kernel_rfl))
                (try dsimp only at t10)
                refine go_in (wanted_at rfl rfl rfl tg rfl) ?_
                intro K hk
                clear haft hK tg hLi
                go_simp
                exact hk.out gg x (fun _ _ => rfl) (hS.go)
              · intro i hi; exact Or.inl (fun _ _ _ => rfl)
              refine' LinAll.cons _ ?_ ?_ ?_
              rotate_left 1
              · intro gg L a x hLi haft hS hK
                have t11 := (hK.old 11 (by kernel_rfl)).trans o11
                have tg := hK.new 13 1 _ 124 _ rfl rfl rfl (by kernel_rfl) (waits haft 13 (by kernel_rfl))
                (try dsimp only at t11)
                refine go_in (wanted_at rfl rfl rfl tg rfl) ?_
                intro K hk
                clear haft hK tg hLi
                go_simp
                exact hk.out gg x (fun _ _ => rfl) (hS.go)
              · intro i hi; exact Or.inl (fun _ _ _ => rfl)
              refine LinAll.cons (fun _ => .bool false) ?_ ?_ ?_
              · intro gg L a x hLi haft hS hK
                have t125 := hK.new 14 1 _ 125 _ rfl rfl rfl (by kernel_rfl) (waits haft 14 (by kernel_rfl))
                have t126 := hK.new 15 0 _ 126 _ rfl rfl rfl (by kernel_rfl) (waits haft 15 (by kernel_rfl))
                have tg := hK.new 13 2 _ 124 _ rfl rfl rfl (by kernel_rfl) (waits haft 13 (by kernel_rfl))
                (try dsimp only at t125 t126)
                refine go_in (wanted_at rfl rfl rfl tg rfl) ?_
                intro K hk
                clear haft hK tg hLi
                go_simp
                exact hk.out gg x (fun _ _ => rfl) hS.go
              · intro i hi; exact Or.inl (fun _ _ _ => rfl)
              refine' LinAll.cons _ ?_ ?_ ?_
              rotate_left 1
              · intro gg L a x hLi haft hS hK
                have t127 := hK.new 16 0 _ 127 _ rfl rfl rfl (by kernel_rfl) (waits haft 16 (by kernel_rfl))
                have tg := hK.new 13 3 _ 124 _ rfl rfl rfl (by kernel_rfl) (waits haft 13 (by kernel_rfl))
                (try dsimp only at t127)
                refine go_in (wanted_at rfl rfl rfl tg rfl) ?_
                intro K hk
                clear haft hK tg hLi
                go_simp
                exact hk.out gg x (fun _ _ => rfl) (hS.go)
              · intro i hi; exact Or.inl (fun _ _ _ => rfl)
              refine' LinAll.cons _ ?_ ?_ ?_
              rotate_left 1
              · intro gg L a x hLi haft hS hK
                have t9 := (hK.old 9 (by kernel_rfl)).trans o9
                have tg := hK.new 17 0 _ 128 _ rfl rfl rfl (by kernel_rfl) (waits haft 17 (by kernel_rfl))
                (try dsimp only at t9)
                refine go_in (wanted_at rfl rfl rfl tg rfl) ?_
                intro K hk
                clear haft hK tg hLi
                go_simp
                exact hk.out gg x (fun _ _ => rfl) (hS.go)
              · intro i hi; exact Or.inl (fun _ _ _ => rfl)
              refine' LinAll.cons _ ?_ ?_ ?_
              rotate_left 1
              · intro gg L a x hLi haft hS hK
                have t5 := (hK.old 5 (by kernel_rfl)).trans o5
                have tg := hK.new 17 1 _ 128 _ rfl rfl rfl (by kernel_rfl) (waits haft 17 (by kernel_rfl))
                (try dsimp only at t5)
                refine go_in (wanted_at rfl rfl rfl tg rfl) ?_
                intro K hk
                clear haft hK tg hLi
                go_simp
                exact hk.out gg x (fun _ _ => rfl) (hS.go)
              · intro i hi; exact Or.inl (fun _ _ _ => rfl)
              refine' LinAll.cons _ ?_ ?_ ?_
              rotate_left 1
              · intro gg L a x hLi haft hS hK
                have t130 := hK.new 19 0 _ 130 _ rfl rfl rfl (by kernel_rfl) (waits haft 19 (by kernel_rfl))
                have tg := hK.new 17 2 _ 128 _ rfl rfl rfl (by kernel_rfl) (waits haft 17 (by kernel_rfl))
                (try dsimp only at t130)
                refine go_in (wanted_at rfl rfl rfl tg rfl) ?_
                intro K hk
                clear haft hK tg hLi
                go_simp
                exact hk.out gg x (fun _ _ => rfl) (hS.go)
              · intro i hi; exact Or.inl (fun _ _ _ => rfl)
              refine' LinAll.cons _ ?_ ?_ ?_
              rotate_left 1
              · intro gg L a x hLi haft hS hK
                have t131 := hK.new 20 0 _ 131 _ rfl rfl rfl (by kernel_rfl) (waits haft 20 (by kernel_rfl))
                have tg := hK.new 17 3 _ 128 _ rfl rfl rfl (by kernel_rfl) (waits haft 17 (by kernel_rfl))
                (try dsimp only at t131)
                refine go_in (wanted_at rfl rfl rfl tg rfl) ?_
                intro K hk
                clear haft hK tg hLi
                go_simp
                exact hk.out gg x (fun _ _ => rfl) (hS.go)
              · intro i hi; exact Or.inl (fun _ _ _ => rfl)
              refine' LinAll.cons _ ?_ ?_ ?_
              rotate_left 1
              · intro gg L a x hLi haft hS hK
                have t132 := hK.new 21 0 _ 132 _ rfl rfl rfl (by kernel_rfl) (waits haft 21 (by kernel_rfl))
                have tg := hK.new 17 4 _ 128 _ rfl rfl rfl (by kernel_rfl) (waits haft 17 (by kernel_rfl))
                (try dsimp only at t132)
                have cX := bel_cell hS.bel lw1 c3'
                refine go_in (wanted_at rfl rfl rfl tg rfl) ?_
                intro K hk
                clear haft hK tg hLi
                go_simp
                exact hk.out gg x (fun _ _ => rfl) (hS.go)
              · intro i hi; exact Or.inl (fun _ _ _ => rfl)
              refine' LinAll.cons _ ?_ ?_ ?_
              rotate_left 1
              · intro gg L a x hLi haft hS hK
                have t7 := (hK.old 7 (by kernel_rfl)).trans o7
                have tg := hK.new 17 5 _ 128 _ rfl rfl rfl (by kernel_rfl) (waits haft 17 (by kernel_rfl))
                (try dsimp only at t7)
                refine go_in (wanted_at rfl rfl rfl tg rfl) ?_
                intro K hk
                clear haft hK tg hLi
                go_simp
                exact hk.out gg x (fun _ _ => rfl) (hS.go)
              · intro i hi; exact Or.inl (fun _ _ _ => rfl)
              refine' LinAll.cons _ ?_ ?_ ?_
              rotate_left 1
              · intro gg L a x hLi haft hS hK
                have t133 := hK.new 22 1 _ 133 _ rfl rfl rfl (by kernel_rfl) (waits haft 22 (by kernel_rfl))
                have t134 := hK.new 23 0 _ 134 _ rfl rfl rfl (by kernel_rfl) (waits haft 23 (by kernel_rfl))
                have tg := hK.new 17 6 _ 128 _ rfl rfl rfl (by kernel_rfl) (waits haft 17 (by kernel_rfl))
                (try dsimp only at t133 t134)
                refine go_in (wanted_at rfl rfl rfl tg rfl) ?_
                intro K hk
                clear haft hK tg hLi
                go_simp
                exact hk.out gg x (fun _ _ => rfl) (hS.go)
              · intro i hi; exact Or.inl (fun _ _ _ => rfl)
              refine' LinAll.cons _ ?_ ?_ ?_
              rotate_left 1
              · intro gg L a x hLi haft hS hK
                have t135 := hK.new 24 0 _ 135 _ rfl rfl rfl (by kernel_rfl) (waits haft 24 (by kernel_rfl))
                have tg := hK.new 17 7 _ 128 _ rfl rfl rfl (by kernel_rfl) (waits haft 17 (by kernel_rfl))
                (try dsimp only at t135)
                refine go_in (wanted_at rfl rfl rfl tg rfl) ?_
                intro K hk
                clear haft hK tg hLi
                go_simp
                exact hk.out gg x (fun _ _ => rfl) (hS.go)
              · intro i hi; exact Or.inl (fun _ _ _ => rfl)
              refine' LinAll.cons _ ?_ ?_ ?_
              rotate_left 1
              · intro gg L a x hLi haft hS hK
                have t136 := hK.new 25 0 _ 136 _ rfl rfl rfl (by kernel_rfl) (waits haft 25 (by kernel_rfl))
                have tg := hK.new 17 8 _ 128 _ rfl rfl rfl (by kernel_rfl) (waits haft 17 (by kernel_rfl))
                (try dsimp only at t136)
                have cX := bel_cell hS.bel lr1 d3'
                refine go_in (wanted_at rfl rfl rfl tg rfl) ?_
                intro K hk
                clear haft hK tg hLi
                go_simp
                exact hk.out gg x (fun _ _ => rfl) (hS.go)
              · intro i hi; exact Or.inl (fun _ _ _ => rfl)
              refine' LinAll.cons _ ?_ ?_ ?_
              rotate_left 1
              · intro gg L a x hLi haft hS hK
                have t5 := (hK.old 5 (by kernel_rfl)).trans o5
                have tg := hK.new 17 9 _ 128 _ rfl rfl rfl (by kernel_rfl) (waits haft 17 (by kernel_rfl))
                (try dsimp only at t5)
                refine go_in (wanted_at rfl rfl rfl tg rfl) ?_
                intro K hk
                clear haft hK tg hLi
                go_simp
                exact hk.out gg x (fun _ _ => rfl) (hS.go)
              · intro i hi; exact Or.inl (fun _ _ _ => rfl)
              refine' LinAll.cons _ ?_ ?_ ?_
              rotate_left 1
              · intro gg L a x hLi haft hS hK
                have t138 := hK.new 27 0 _ 138 _ rfl rfl rfl (by kernel_rfl) (waits haft 27 (by kernel_rfl))
                have tg := hK.new 17 10 _ 128 _ rfl rfl rfl (by kernel_rfl) (waits haft 17 (by kernel_rfl))
                (try dsimp only at t138)
                refine go_in (wanted_at rfl rfl rfl tg rfl) ?_
                intro K hk
                clear haft hK tg hLi
                go_simp
                exact hk.out gg x (fun _ _ => rfl) (hS.go)
              · intro i hi; exact Or.inl (fun _ _ _ => rfl)
              refine' LinAll.cons _ ?_ ?_ ?_
              rotate_left 1
              · intro gg L a x hLi haft hS hK
                have t139 := hK.new 28 0 _ 139 _ rfl rfl rfl (by kernel_rfl) (waits haft 28 (by kernel_rfl))
                have tg := hK.new 17 11 _ 128 _ rfl rfl rfl (by kernel_rfl) (waits haft 17 (by kernel_rfl))
                (try dsimp only at t139)
                refine go_in (wanted_at rfl rfl rfl tg rfl) ?_
                intro K hk
                clear haft hK tg hLi
                go_simp
                exact hk.out gg x (fun _ _ => rfl) (hS.go)
              · intro i hi; exact Or.inl (fun _ _ _ => rfl)
              refine' LinAll.cons _ ?_ ?_ ?_
              rotate_left 1
              · intro gg L a x hLi haft hS hK
                have t140 := hK.new 29 0 _ 140 _ rfl rfl rfl (by kernel_rfl) (waits haft 29 (by kernel_rfl))
                have tg := hK.new 17 12 _ 128 _ rfl rfl rfl (by kernel_rfl) (waits haft 17 (by kernel_rfl))
                (try dsimp only at t140)
                have cX := bel_cell hS.bel lw1 m1'
                refine go_in (wanted_at rfl rfl rfl tg rfl) ?_
                intro K hk
                clear haft hK tg hLi
                go_simp
                exact hk.out gg x (fun _ _ => rfl) (hS.go)
              · intro i hi; exact Or.inl (fun _ _ _ => rfl)
              refine LinAll.cons (fun _ => .int .i64 (vN : Int)) ?_ ?_ ?_
              · intro gg L a x hLi haft hS hK
                have t137 := hK.new 26 4 _ 137 _ rfl rfl rfl (by kernel_rfl) (waits haft 26 (by kernel_rfl))
                have t141 := hK.new 30 0 _ 141 _ rfl rfl rfl (by kernel_rfl) (waits haft 30 (by kernel_rfl))
                have tg := hK.new 17 13 _ 128 _ rfl rfl rfl (by kernel_rfl) (waits haft 17 (by kernel_rfl))
                (try dsimp only at t137 t141)
                refine go_in (wanted_at rfl rfl rfl tg rfl) ?_
                intro K hk
                have hCX := HTP.out x (HB1Y.out.trans (hS.bel.mono HB1Y.out.size))
                clear haft hK tg hLi
                go_simp
                refine Calls.mono hCX ?_
                rintro e y ⟨rfl, hy⟩
                exact hk.out gg y (fun _ _ => rfl) (hS.called hy)
              · intro i hi; exact Or.inl (fun _ _ _ => rfl)
              refine LinAll.cons (fun _ => .bool false) ?_ ?_ ?_
              · intro gg L a x hLi haft hS hK
                have t129 := hK.new 18 13 _ 129 _ rfl rfl rfl (by kernel_rfl) (waits haft 18 (by kernel_rfl))
                have t142 := hK.new 31 0 _ 142 _ rfl rfl rfl (by kernel_rfl) (waits haft 31 (by kernel_rfl))
                have tg := hK.new 17 14 _ 128 _ rfl rfl rfl (by kernel_rfl) (waits haft 17 (by kernel_rfl))
                (try dsimp only at t129 t142)
                refine go_in (wanted_at rfl rfl rfl tg rfl) ?_
                intro K hk
                clear haft hK tg hLi
                go_simp
                exact hk.out gg x (fun _ _ => rfl) hS.go
              · intro i hi; exact Or.inl (fun _ _ _ => rfl)
              refine' LinAll.cons _ ?_ ?_ ?_
              rotate_left 1
              · intro gg L a x hLi haft hS hK
                have t128 := hK.new 17 15 _ 128 _ rfl rfl rfl (by kernel_rfl) (waits haft 17 (by kernel_rfl))
                have t143 := hK.new 32 0 _ 143 _ rfl rfl rfl (by kernel_rfl) (waits haft 32 (by kernel_rfl))
                have tg := hK.new 13 19 _ 124 _ rfl rfl rfl (by kernel_rfl) (waits haft 13 (by kernel_rfl))
                (try dsimp only at t128 t143)
                refine go_in (wanted_at rfl rfl rfl tg rfl) ?_
                intro K hk
                clear haft hK tg hLi
                go_simp
                exact hk.out gg x (fun _ _ => rfl) (hS.go)
              · intro i hi; exact Or.inl (fun _ _ _ => rfl)
              refine' LinAll.cons _ ?_ ?_ ?_
              rotate_left 1
              · intro gg L a x hLi haft hS hK
                have t124 := hK.new 13 20 _ 124 _ rfl rfl rfl (by kernel_rfl) (waits haft 13 (by kernel_rfl))
                have t144 := hK.new 33 0 _ 144 _ rfl rfl rfl (by kernel_rfl) (waits haft 33 (by kernel_rfl))
                have tg := hK.new 11 22 _ 122 _ rfl rfl rfl (by kernel_rfl) (waits haft 11 (by kernel_rfl))
                (try dsimp only at t124 t144)
                refine go_in (wanted_at rfl rfl rfl tg rfl) ?_
                intro K hk
                clear haft hK tg hLi
                go_simp
                exact hk.out gg x (fun _ _ => rfl) (hS.go)
              · intro i hi; exact Or.inl (fun _ _ _ => rfl)
              refine' LinAll.cons _ ?_ ?_ ?_
              rotate_left 1
              · intro gg L a x hLi haft hS hK
                have t122 := hK.new 11 23 _ 122 _ rfl rfl rfl (by kernel_rfl) (waits haft 11 (by kernel_rfl))
                have t145 := hK.new 34 0 _ 145 _ rfl rfl rfl (by kernel_rfl) (waits haft 34 (by kernel_rfl))
                (try dsimp only at t122 t145)
                refine go_in (wanted_all rfl) ?_
                intro K hk
                clear haft hK hLi
                go_simp
                exact hk.out gg x (fun _ _ => rfl) (hS.go)
              · intro i hi; exact Or.inl (fun _ _ _ => rfl)
              refine LinAll.nil fun gg Y2 hS => ?_
              subst ha0
              simp only [Act.put, List.setIfInBounds_toArray, List.set_cons_zero, List.set_cons_succ]
              clear o5 o7 o9 o10 o11 o12
              have HB2Y : Hid (Below wa.heap.size wa Y2) := HB1Y.out.trans (hS.bel.mono HB1Y.out.size)
              clear hS m1' c3' lw1 lr1 d2' d3' hlh hf1 HTP HND
              have eP := two_pow (show n ≤ 7 by omega)
              obtain ⟨P2, hP2⟩ : ∃ P2, P2 = N2 n := ⟨_, rfl⟩
              rw [← hP2] at eP
              have HP2 : Hid (P2 = N2 n) := hP2
              have HPB : Hid (P2 ≤ 128) := by unfold Hid; rw [hP2]; exact (n2_le (by omega)).1
              clear hP2
              have m1w := (HK.out.below HB2Y.out).cells.2.1
              have lww := (HK.out.below HB2Y.out).cells.2.2.2.2.1
              go_wp2_with fail
              clear m1w lww
              go_loopw [13] (fun x wq => ∃ q : Nat, q ≤ P2 ∧ x = .int .i64 (q : Int) ∧ Hid (Below wa.heap.size wa wq)) (fun x wq => P2 - (intOf x).toNat)
              case atStart => exact ⟨0, Nat.zero_le _, rfl, HB2Y.out⟩
              case round =>
                obtain ⟨wy, rfl⟩ : ∃ wy, wy = wr := ⟨_, rfl⟩
                obtain ⟨q, hq, rfl, hY⟩ := hrel
                have hz := HK.out.below hY.out
                obtain ⟨m0z, m1z, c3z, -, lw2, -⟩ := hz.cells
                by_cases hqP : q < P2
                · have hqI : (q : Int) < (P2 : Int) := by omega
                  have e : bt q vN = (bits BinOp.and IntKind.i64 ((q : Int) / 2 ^ vN) 1 == 1) := by unfold bt; rw [Nat.min_eq_left (by omega)]
                  have HIN : Hid _ := fun x => input_any (n := n) (k := q) (by omega) (by have := HPB.out; omega) x
                  obtain ⟨bq, hbq⟩ : ∃ bq, bq = tk.getD q false := ⟨_, rfl⟩
                  have HBQ : Hid (bq = if bt q vN then val n S.ns (fun i => bt q i.toNat) hi else val n S.ns (fun i => bt q i.toNat) lo) := by
                    unfold Hid
                    rw [hbq, HETK.out, tabV_get _ (by rw [← HP2.out]; exact hqP), HST.out]
                    rfl
                  have HTB : Hid (∀ x, Below wa.heap.size wa x → x.cell? ⟨rk, q, none⟩ = some (.bool bq)) := fun x hb => by
                    obtain ⟨r, cs, e1, e2, -, -, e3⟩ := HTK.out.ex
                    injection e1 with e1 _ _
                    injection e1 with e1
                    injection e1 with e1
                    subst e1
                    rw [hbq]
                    exact bel_cell hb (blk_lt e2) (e3 q (by rw [HTL.out, ← HP2.out]; exact hqP))
                  have hqL : (q : Int) < (lk : Int) := by rw [HLK.out, ← HP2.out]; exact hqI
                  clear hbq hz
                  cases hy : bt q vN with
                  | true =>
                    rw [hy] at e
                    have e' := e.symm
                    clear e
                    have HVQ : Hid (bq = val n S.ns (fun i => bt q i.toNat) hi) := by unfold Hid; rw [HBQ.out, hy, if_pos rfl]
                    have HAL : Hid (alive S.ns hi) := HQ5.out
                    have HEV : Hid (∀ x v, Below wa.heap.size wa x → Bz x v (inF n q) → Calls Tryd.prog 11 #[.pointer (some ⟨g, 0, none⟩), .int .i64 hi, v] x fun e w' => e = .returned (.tuple #[.bool bq, .int .i64 0]) ∧ Below x.heap.size x w') := fun x v hb hv => by
                      have := eval_any (HK.out.below hb).rm.gr hi hv
                      rwa [if_pos HAL.out, if_pos (inF_len n q), val_in HK.out.rm.good HAL.out, ← HVQ.out] at this
                    go_upto_region 27 with fail
                    have HZY : Hid (Below wa.heap.size wa wy) := hY.out
                    refine wp_named fun a0 ha0 => ?_
                    have o5 := old_at ha0 (t := 5) rfl
                    have o13 := old_at ha0 (t := 13) rfl
                    have o14 := old_at ha0 (t := 14) rfl
                    refine wp_region_lin (S := IW wy 10 n (inF n q)) [10] (fun _ => 0) (by kernel_rfl) (by kernel_rfl) (by rw [← ha0]; kernel_rfl) (IW.start) ?_
                    refine' LinAll.cons _ ?_ ?_ ?_
                    rotate_left 1
                    · intro gg L a x hLi haft hS hK
                      have t5 := (hK.old 5 (by kernel_rfl)).trans o5
                      (try dsimp only at t5)
                      refine go_in (wanted_all rfl) ?_
                      intro K hk
                      clear haft hK hLi
                      go_simp
                      exact hk.out gg x (fun _ _ => rfl) (hS.go (by decide))
                    · intro i hi; exact Or.inl (fun _ _ _ => rfl)
                    refine' LinAll.cons _ ?_ ?_ ?_
                    rotate_left 1
                    · intro gg L a x hLi haft hS hK
                      have t167 := hK.new 0 0 _ 167 _ rfl rfl rfl (by kernel_rfl) (waits haft 0 (by kernel_rfl))
                      (try dsimp only at t167)
                      refine go_in (wanted_all rfl) ?_
                      intro K hk
                      clear haft hK hLi
                      go_simp
                      exact hk.out gg x (fun _ _ => rfl) (hS.go (by decide))
                    · intro i hi; exact Or.inl (fun _ _ _ => rfl)
                    refine' LinAll.cons _ ?_ ?_ ?_
                    rotate_left 1
                    · intro gg L a x hLi haft hS hK
                      have t168 := hK.new 1 0 _ 168 _ rfl rfl rfl (by kernel_rfl) (waits haft 1 (by kernel_rfl))
                      (try dsimp only at t168)
                      refine go_in (wanted_all rfl) ?_
                      intro K hk
                      clear haft hK hLi
                      go_simp
                      exact hk.out gg x (fun _ _ => rfl) (hS.go (by decide))
                    · intro i hi; exact Or.inl (fun _ _ _ => rfl)
                    refine' LinAll.cons _ ?_ ?_ ?_
                    rotate_left 1
                    · intro gg L a x hLi haft hS hK
                      have t169 := hK.new 2 0 _ 169 _ rfl rfl rfl (by kernel_rfl) (waits haft 2 (by kernel_rfl))
                      (try dsimp only at t169)
                      have cX := bel_cell hS.bel lw2 m0z
                      refine go_in (wanted_all rfl) ?_
                      intro K hk
                      clear haft hK hLi
                      go_simp
                      exact hk.out gg x (fun _ _ => rfl) (hS.go (by decide))
                    · intro i hi; exact Or.inl (fun _ _ _ => rfl)
                    refine' LinAll.cons _ ?_ ?_ ?_
                    rotate_left 1
                    · intro gg L a x hLi haft hS hK
                      have t14 := (hK.old 14 (by kernel_rfl)).trans o14
                      (try dsimp only at t14)
                      refine go_in (wanted_all rfl) ?_
                      intro K hk
                      clear haft hK hLi
                      go_simp
                      exact hk.out gg x (fun _ _ => rfl) (hS.go (by decide))
                    · intro i hi; exact Or.inl (fun _ _ _ => rfl)
                    refine' LinAll.cons _ ?_ ?_ ?_
                    rotate_left 1
                    · intro gg L a x hLi haft hS hK
                      have t5 := (hK.old 5 (by kernel_rfl)).trans o5
                      (try dsimp only at t5)
                      refine go_in (wanted_all rfl) ?_
                      intro K hk
                      clear haft hK hLi
                      go_simp
                      exact hk.out gg x (fun _ _ => rfl) (hS.go (by decide))
                    · intro i hi; exact Or.inl (fun _ _ _ => rfl)
                    refine' LinAll.cons _ ?_ ?_ ?_
                    rotate_left 1
                    · intro gg L a x hLi haft hS hK
                      have t172 := hK.new 5 0 _ 172 _ rfl rfl rfl (by kernel_rfl) (waits haft 5 (by kernel_rfl))
                      (try dsimp only at t172)
                      refine go_in (wanted_all rfl) ?_
                      intro K hk
                      clear haft hK hLi
                      go_simp
                      exact hk.out gg x (fun _ _ => rfl) (hS.go (by decide))
                    · intro i hi; exact Or.inl (fun _ _ _ => rfl)
                    refine' LinAll.cons _ ?_ ?_ ?_
                    rotate_left 1
                    · intro gg L a x hLi haft hS hK
                      have t173 := hK.new 6 0 _ 173 _ rfl rfl rfl (by kernel_rfl) (waits haft 6 (by kernel_rfl))
                      (try dsimp only at t173)
                      refine go_in (wanted_all rfl) ?_
                      intro K hk
                      clear haft hK hLi
                      go_simp
                      exact hk.out gg x (fun _ _ => rfl) (hS.go (by decide))
                    · intro i hi; exact Or.inl (fun _ _ _ => rfl)
                    refine' LinAll.cons _ ?_ ?_ ?_
                    rotate_left 1
                    · intro gg L a x hLi haft hS hK
                      have t174 := hK.new 7 0 _ 174 _ rfl rfl rfl (by kernel_rfl) (waits haft 7 (by kernel_rfl))
                      (try dsimp only at t174)
                      have cX := bel_cell hS.bel lw2 m1z
                      refine go_in (wanted_all rfl) ?_
                      intro K hk
                      clear haft hK hLi
                      go_simp
                      exact hk.out gg x (fun _ _ => rfl) (hS.go (by decide))
                    · intro i hi; exact Or.inl (fun _ _ _ => rfl)
                    refine' LinAll.cons _ ?_ ?_ ?_
                    rotate_left 1
                    · intro gg L a x hLi haft hS hK
                      have t13 := (hK.old 13 (by kernel_rfl)).trans o13
                      (try dsimp only at t13)
                      refine go_in (wanted_all rfl) ?_
                      intro K hk
                      clear haft hK hLi
                      go_simp
                      exact hk.out gg x (fun _ _ => rfl) (hS.go (by decide))
                    · intro i hi; exact Or.inl (fun _ _ _ => rfl)
                    refine LinAll.cons (fun g => sl n (g 10)) ?_ ?_ ?_
                    · intro gg L a x hLi haft hS hK
                      have t175 := hK.new 8 1 _ 175 _ rfl rfl rfl (by kernel_rfl) (waits haft 8 (by kernel_rfl))
                      have t176 := hK.new 9 0 _ 176 _ rfl rfl rfl (by kernel_rfl) (waits haft 9 (by kernel_rfl))
                      (try dsimp only at t175 t176)
                      refine go_in (wanted_all rfl) ?_
                      intro K hk
                      have hCX := HIN.out x
                      clear haft hK hLi
                      go_simp
                      refine Calls.mono hCX ?_
                      rintro e y ⟨u, rfl, hu, hy⟩
                      obtain ⟨p, hp⟩ := sl_own hu.row (by rw [inF_len]; exact HN1.out)
                      rw [inF_len] at hp
                      subst hp
                      have hq := hk.out (updG gg 10 p) y (updG_al (by rfl)) (hS.made hy hu.bz)
                      dsimp only at hq; rw [updG_eq] at hq; exact hq
                    · intro i hi
                      simp only [List.mem_cons, List.not_mem_nil, or_false] at hi
                      rcases hi with rfl
                      · exact Or.inr (by kernel_rfl)
                    refine LinAll.cons (fun _ => .tuple #[.bool bq, .int .i64 0]) ?_ ?_ ?_
                    · intro gg L a x hLi haft hS hK
                      have t170 := hK.new 3 7 _ 170 _ rfl rfl rfl (by kernel_rfl) (waits haft 3 (by kernel_rfl))
                      have t171 := hK.new 4 6 _ 171 _ rfl rfl rfl (by kernel_rfl) (waits haft 4 (by kernel_rfl))
                      have t177 := hK.new 10 0 _ 177 _ rfl rfl rfl (by kernel_rfl) (waits haft 10 (by kernel_rfl))
                      (try dsimp only at t170 t171 t177)
                      refine go_in (wanted_all rfl) ?_
                      intro K hk
                      have hCX := HEV.out x _ (HZY.out.trans (hS.bel.mono HZY.out.size)) (hS.i (waits haft 10 (by kernel_rfl)))
                      clear haft hK hLi
                      go_simp
                      refine Calls.mono hCX ?_
                      rintro e y ⟨rfl, hy⟩
                      exact hk.out gg y (fun _ _ => rfl) (hS.called (by decide) hy)
                    · intro i hi; exact Or.inl (fun _ _ _ => rfl)
                    refine' LinAll.cons _ ?_ ?_ ?_
                    rotate_left 1
                    · intro gg L a x hLi haft hS hK
                      have t178 := hK.new 11 0 _ 178 _ rfl rfl rfl (by kernel_rfl) (waits haft 11 (by kernel_rfl))
                      (try dsimp only at t178)
                      refine go_in (wanted_all rfl) ?_
                      intro K hk
                      clear haft hK hLi
                      go_simp
                      exact hk.out gg x (fun _ _ => rfl) (hS.go (by decide))
                    · intro i hi; exact Or.inl (fun _ _ _ => rfl)
                    refine' LinAll.cons _ ?_ ?_ ?_
                    rotate_left 1
                    · intro gg L a x hLi haft hS hK
                      have t166 := hK.new 12 0 _ 166 _ rfl rfl rfl (by kernel_rfl) (waits haft 12 (by kernel_rfl))
                      (try dsimp only at t166)
                      refine go_in (wanted_all rfl) ?_
                      intro K hk
                      clear haft hK hLi
                      go_simp
                      exact hk.out gg x (fun _ _ => rfl) (hS.go (by decide))
                    · intro i hi; exact Or.inl (fun _ _ _ => rfl)
                    refine' LinAll.cons _ ?_ ?_ ?_
                    rotate_left 1
                    · intro gg L a x hLi haft hS hK
                      have t166 := hK.new 12 1 _ 166 _ rfl rfl rfl (by kernel_rfl) (waits haft 12 (by kernel_rfl))
                      (try dsimp only at t166)
                      refine go_in (wanted_all rfl) ?_
                      intro K hk
                      clear haft hK hLi
                      go_simp
                      exact hk.out gg x (fun _ _ => rfl) (hS.go (by decide))
                    · intro i hi; exact Or.inl (fun _ _ _ => rfl)
                    refine' LinAll.cons _ ?_ ?_ ?_
                    rotate_left 1
                    · intro gg L a x hLi haft hS hK
                      have t179 := hK.new 13 1 _ 179 _ rfl rfl rfl (by kernel_rfl) (waits haft 13 (by kernel_rfl))
                      (try dsimp only at t179)
                      refine go_in (wanted_all rfl) ?_
                      intro K hk
                      clear haft hK hLi
                      go_simp
                      exact hk.out gg x (fun _ _ => rfl) (hS.go (by decide))
                    · intro i hi; exact Or.inl (fun _ _ _ => rfl)
                    refine' LinAll.cons _ ?_ ?_ ?_
                    rotate_left 1
                    · intro gg L a x hLi haft hS hK
                      have t180 := hK.new 14 1 _ 180 _ rfl rfl rfl (by kernel_rfl) (waits haft 14 (by kernel_rfl))
                      (try dsimp only at t180)
                      refine go_in (wanted_all rfl) ?_
                      intro K hk
                      clear haft hK hLi
                      go_simp
                      exact hk.out gg x (fun _ _ => rfl) (hS.go (by decide))
                    · intro i hi; exact Or.inl (fun _ _ _ => rfl)
                    refine LinAll.nil fun g4 Y4 hS => ?_
                    subst ha0
                    simp only [Act.put, List.setIfInBounds_toArray, List.set_cons_zero, List.set_cons_succ]
                    clear o5 o13 o14
                    have HB4 : Hid (Below wa.heap.size wa Y4) := hY.out.trans (hS.bel.mono hY.out.size)
                    have hz := HK.out.below HB4.out
                    obtain ⟨-, -, c4, -, lw4, -⟩ := hz.cells
                    obtain ⟨lr4, -, d4⟩ := hz.hl.get' HPK.out
                    dsimp only at d4
                    have t4 := HTB.out Y4 HB4.out
                    have hqB : (q : Int) < 1000 := by have := HPB.out; omega
                    have lrk : rk < Y4.heap.size := by
                      obtain ⟨r, cs, e1, e2, -⟩ := (hz.hl.tb _ (List.mem_of_getElem? HPK.out)).ex
                      injection e1 with e1 _ _
                      injection e1 with e1
                      injection e1 with e1
                      subst e1
                      exact blk_lt e2
                    clear hS hz m0z m1z c3z lw2
                    go_wp2_with fail
                    exact ⟨⟨q + 1, by omega, by go_num, HB4.out⟩, by simp [intOf]; omega⟩
                  | false =>
                    rw [hy] at e
                    have e' := e.symm
                    clear e
                    have HVQ : Hid (bq = val n S.ns (fun i => bt q i.toNat) lo) := by unfold Hid; rw [HBQ.out, hy, if_neg (by decide)]
                    have HAL : Hid (alive S.ns lo) := HQ4.out
                    have HEV : Hid (∀ x v, Below wa.heap.size wa x → Bz x v (inF n q) → Calls Tryd.prog 11 #[.pointer (some ⟨g, 0, none⟩), .int .i64 lo, v] x fun e w' => e = .returned (.tuple #[.bool bq, .int .i64 0]) ∧ Below x.heap.size x w') := fun x v hb hv => by
                      have := eval_any (HK.out.below hb).rm.gr lo hv
                      rwa [if_pos HAL.out, if_pos (inF_len n q), val_in HK.out.rm.good HAL.out, ← HVQ.out] at this
                    go_upto_region 27 with fail
                    have HZY : Hid (Below wa.heap.size wa wy) := hY.out
                    refine wp_named fun a0 ha0 => ?_
                    have o5 := old_at ha0 (t := 5) rfl
                    have o13 := old_at ha0 (t := 13) rfl
                    have o14 := old_at ha0 (t := 14) rfl
                    refine wp_region_lin (S := IW wy 10 n (inF n q)) [10] (fun _ => 0) (by kernel_rfl) (by kernel_rfl) (by rw [← ha0]; kernel_rfl) (IW.start) ?_
                    refine' LinAll.cons _ ?_ ?_ ?_
                    rotate_left 1
                    · intro gg L a x hLi haft hS hK
                      have t5 := (hK.old 5 (by kernel_rfl)).trans o5
                      (try dsimp only at t5)
                      refine go_in (wanted_all rfl) ?_
                      intro K hk
                      clear haft hK hLi
                      go_simp
                      exact hk.out gg x (fun _ _ => rfl) (hS.go (by decide))
                    · intro i hi; exact Or.inl (fun _ _ _ => rfl)
                    refine' LinAll.cons _ ?_ ?_ ?_
                    rotate_left 1
                    · intro gg L a x hLi haft hS hK
                      have t167 := hK.new 0 0 _ 167 _ rfl rfl rfl (by kernel_rfl) (waits haft 0 (by kernel_rfl))
                      (try dsimp only at t167)
                      refine go_in (wanted_all rfl) ?_
                      intro K hk
                      clear haft hK hLi
                      go_simp
                      exact hk.out gg x (fun _ _ => rfl) (hS.go (by decide))
                    · intro i hi; exact Or.inl (fun _ _ _ => rfl)
                    refine' LinAll.cons _ ?_ ?_ ?_
                    rotate_left 1
                    · intro gg L a x hLi haft hS hK
                      have t168 := hK.new 1 0 _ 168 _ rfl rfl rfl (by kernel_rfl) (waits haft 1 (by kernel_rfl))
                      (try dsimp only at t168)
                      refine go_in (wanted_all rfl) ?_
                      intro K hk
                      clear haft hK hLi
                      go_simp
                      exact hk.out gg x (fun _ _ => rfl) (hS.go (by decide))
                    · intro i hi; exact Or.inl (fun _ _ _ => rfl)
                    refine' LinAll.cons _ ?_ ?_ ?_
                    rotate_left 1
                    · intro gg L a x hLi haft hS hK
                      have t169 := hK.new 2 0 _ 169 _ rfl rfl rfl (by kernel_rfl) (waits haft 2 (by kernel_rfl))
                      (try dsimp only at t169)
                      have cX := bel_cell hS.bel lw2 m0z
                      refine go_in (wanted_all rfl) ?_
                      intro K hk
                      clear haft hK hLi
                      go_simp
                      exact hk.out gg x (fun _ _ => rfl) (hS.go (by decide))
                    · intro i hi; exact Or.inl (fun _ _ _ => rfl)
                    refine' LinAll.cons _ ?_ ?_ ?_
                    rotate_left 1
                    · intro gg L a x hLi haft hS hK
                      have t14 := (hK.old 14 (by kernel_rfl)).trans o14
                      (try dsimp only at t14)
                      refine go_in (wanted_all rfl) ?_
                      intro K hk
                      clear haft hK hLi
                      go_simp
                      exact hk.out gg x (fun _ _ => rfl) (hS.go (by decide))
                    · intro i hi; exact Or.inl (fun _ _ _ => rfl)
                    refine' LinAll.cons _ ?_ ?_ ?_
                    rotate_left 1
                    · intro gg L a x hLi haft hS hK
                      have t5 := (hK.old 5 (by kernel_rfl)).trans o5
                      (try dsimp only at t5)
                      refine go_in (wanted_all rfl) ?_
                      intro K hk
                      clear haft hK hLi
                      go_simp
                      exact hk.out gg x (fun _ _ => rfl) (hS.go (by decide))
                    · intro i hi; exact Or.inl (fun _ _ _ => rfl)
                    refine' LinAll.cons _ ?_ ?_ ?_
                    rotate_left 1
                    · intro gg L a x hLi haft hS hK
                      have t172 := hK.new 5 0 _ 172 _ rfl rfl rfl (by kernel_rfl) (waits haft 5 (by kernel_rfl))
                      (try dsimp only at t172)
                      refine go_in (wanted_all rfl) ?_
                      intro K hk
                      clear haft hK hLi
                      go_simp
                      exact hk.out gg x (fun _ _ => rfl) (hS.go (by decide))
                    · intro i hi; exact Or.inl (fun _ _ _ => rfl)
                    refine' LinAll.cons _ ?_ ?_ ?_
                    rotate_left 1
                    · intro gg L a x hLi haft hS hK
                      have t173 := hK.new 6 0 _ 173 _ rfl rfl rfl (by kernel_rfl) (waits haft 6 (by kernel_rfl))
                      (try dsimp only at t173)
                      refine go_in (wanted_all rfl) ?_
                      intro K hk
                      clear haft hK hLi
                      go_simp
                      exact hk.out gg x (fun _ _ => rfl) (hS.go (by decide))
                    · intro i hi; exact Or.inl (fun _ _ _ => rfl)
                    refine' LinAll.cons _ ?_ ?_ ?_
                    rotate_left 1
                    · intro gg L a x hLi haft hS hK
                      have t174 := hK.new 7 0 _ 174 _ rfl rfl rfl (by kernel_rfl) (waits haft 7 (by kernel_rfl))
                      (try dsimp only at t174)
                      have cX := bel_cell hS.bel lw2 m1z
                      refine go_in (wanted_all rfl) ?_
                      intro K hk
                      clear haft hK hLi
                      go_simp
                      exact hk.out gg x (fun _ _ => rfl) (hS.go (by decide))
                    · intro i hi; exact Or.inl (fun _ _ _ => rfl)
                    refine' LinAll.cons _ ?_ ?_ ?_
                    rotate_left 1
                    · intro gg L a x hLi haft hS hK
                      have t13 := (hK.old 13 (by kernel_rfl)).trans o13
                      (try dsimp only at t13)
                      refine go_in (wanted_all rfl) ?_
                      intro K hk
                      clear haft hK hLi
                      go_simp
                      exact hk.out gg x (fun _ _ => rfl) (hS.go (by decide))
                    · intro i hi; exact Or.inl (fun _ _ _ => rfl)
                    refine LinAll.cons (fun g => sl n (g 10)) ?_ ?_ ?_
                    · intro gg L a x hLi haft hS hK
                      have t175 := hK.new 8 1 _ 175 _ rfl rfl rfl (by kernel_rfl) (waits haft 8 (by kernel_rfl))
                      have t176 := hK.new 9 0 _ 176 _ rfl rfl rfl (by kernel_rfl) (waits haft 9 (by kernel_rfl))
                      (try dsimp only at t175 t176)
                      refine go_in (wanted_all rfl) ?_
                      intro K hk
                      have hCX := HIN.out x
                      clear haft hK hLi
                      go_simp
                      refine Calls.mono hCX ?_
                      rintro e y ⟨u, rfl, hu, hy⟩
                      obtain ⟨p, hp⟩ := sl_own hu.row (by rw [inF_len]; exact HN1.out)
                      rw [inF_len] at hp
                      subst hp
                      have hq := hk.out (updG gg 10 p) y (updG_al (by rfl)) (hS.made hy hu.bz)
                      dsimp only at hq; rw [updG_eq] at hq; exact hq
                    · intro i hi
                      simp only [List.mem_cons, List.not_mem_nil, or_false] at hi
                      rcases hi with rfl
                      · exact Or.inr (by kernel_rfl)
                    refine LinAll.cons (fun _ => .tuple #[.bool bq, .int .i64 0]) ?_ ?_ ?_
                    · intro gg L a x hLi haft hS hK
                      have t170 := hK.new 3 7 _ 170 _ rfl rfl rfl (by kernel_rfl) (waits haft 3 (by kernel_rfl))
                      have t171 := hK.new 4 6 _ 171 _ rfl rfl rfl (by kernel_rfl) (waits haft 4 (by kernel_rfl))
                      have t177 := hK.new 10 0 _ 177 _ rfl rfl rfl (by kernel_rfl) (waits haft 10 (by kernel_rfl))
                      (try dsimp only at t170 t171 t177)
                      refine go_in (wanted_all rfl) ?_
                      intro K hk
                      have hCX := HEV.out x _ (HZY.out.trans (hS.bel.mono HZY.out.size)) (hS.i (waits haft 10 (by kernel_rfl)))
                      clear haft hK hLi
                      go_simp
                      refine Calls.mono hCX ?_
                      rintro e y ⟨rfl, hy⟩
                      exact hk.out gg y (fun _ _ => rfl) (hS.called (by decide) hy)
                    · intro i hi; exact Or.inl (fun _ _ _ => rfl)
                    refine' LinAll.cons _ ?_ ?_ ?_
                    rotate_left 1
                    · intro gg L a x hLi haft hS hK
                      have t178 := hK.new 11 0 _ 178 _ rfl rfl rfl (by kernel_rfl) (waits haft 11 (by kernel_rfl))
                      (try dsimp only at t178)
                      refine go_in (wanted_all rfl) ?_
                      intro K hk
                      clear haft hK hLi
                      go_simp
                      exact hk.out gg x (fun _ _ => rfl) (hS.go (by decide))
                    · intro i hi; exact Or.inl (fun _ _ _ => rfl)
                    refine' LinAll.cons _ ?_ ?_ ?_
                    rotate_left 1
                    · intro gg L a x hLi haft hS hK
                      have t166 := hK.new 12 0 _ 166 _ rfl rfl rfl (by kernel_rfl) (waits haft 12 (by kernel_rfl))
                      (try dsimp only at t166)
                      refine go_in (wanted_all rfl) ?_
                      intro K hk
                      clear haft hK hLi
                      go_simp
                      exact hk.out gg x (fun _ _ => rfl) (hS.go (by decide))
                    · intro i hi; exact Or.inl (fun _ _ _ => rfl)
                    refine' LinAll.cons _ ?_ ?_ ?_
                    rotate_left 1
                    · intro gg L a x hLi haft hS hK
                      have t166 := hK.new 12 1 _ 166 _ rfl rfl rfl (by kernel_rfl) (waits haft 12 (by kernel_rfl))
                      (try dsimp only at t166)
                      refine go_in (wanted_all rfl) ?_
                      intro K hk
                      clear haft hK hLi
                      go_simp
                      exact hk.out gg x (fun _ _ => rfl) (hS.go (by decide))
                    · intro i hi; exact Or.inl (fun _ _ _ => rfl)
                    refine' LinAll.cons _ ?_ ?_ ?_
                    rotate_left 1
                    · intro gg L a x hLi haft hS hK
                      have t179 := hK.new 13 1 _ 179 _ rfl rfl rfl (by kernel_rfl) (waits haft 13 (by kernel_rfl))
                      (try dsimp only at t179)
                      refine go_in (wanted_all rfl) ?_
                      intro K hk
                      clear haft hK hLi
                      go_simp
                      exact hk.out gg x (fun _ _ => rfl) (hS.go (by decide))
                    · intro i hi; exact Or.inl (fun _ _ _ => rfl)
                    refine' LinAll.cons _ ?_ ?_ ?_
                    rotate_left 1
                    · intro gg L a x hLi haft hS hK
                      have t180 := hK.new 14 1 _ 180 _ rfl rfl rfl (by kernel_rfl) (waits haft 14 (by kernel_rfl))
                      (try dsimp only at t180)
                      refine go_in (wanted_all rfl) ?_
                      intro K hk
                      clear haft hK hLi
                      go_simp
                      exact hk.out gg x (fun _ _ => rfl) (hS.go (by decide))
                    · intro i hi; exact Or.inl (fun _ _ _ => rfl)
                    refine LinAll.nil fun g4 Y4 hS => ?_
                    subst ha0
                    simp only [Act.put, List.setIfInBounds_toArray, List.set_cons_zero, List.set_cons_succ]
                    clear o5 o13 o14
                    have HB4 : Hid (Below wa.heap.size wa Y4) := hY.out.trans (hS.bel.mono hY.out.size)
                    have hz := HK.out.below HB4.out
                    obtain ⟨-, -, c4, -, lw4, -⟩ := hz.cells
                    obtain ⟨lr4, -, d4⟩ := hz.hl.get' HPK.out
                    dsimp only at d4
                    have t4 := HTB.out Y4 HB4.out
                    have hqB : (q : Int) < 1000 := by have := HPB.out; omega
                    have lrk : rk < Y4.heap.size := by
                      obtain ⟨r, cs, e1, e2, -⟩ := (hz.hl.tb _ (List.mem_of_getElem? HPK.out)).ex
                      injection e1 with e1 _ _
                      injection e1 with e1
                      injection e1 with e1
                      subst e1
                      exact blk_lt e2
                    clear hS hz m0z m1z c3z lw2
                    go_wp2_with fail
                    exact ⟨⟨q + 1, by omega, by go_num, HB4.out⟩, by simp [intOf]; omega⟩
                · have hqI : decide ((q : Int) < (P2 : Int)) = false := by simp; omega
                  have hkB : (k : Int) < 1000 := by have := HLT.out; omega
                  clear hz m0z c3z
                  go_wp2_with fail
                  exact ⟨⟨k + 1, by omega, by go_num, hY.out⟩, by simp [intOf]; omega⟩
            · have enod : nodF S.ns fk = #[.int .i64 0, .int .i64 0, .int .i64 0, .bool false] := if_neg (fun h => hf2 h.1)
              rw [enod] at hnd
              have HND : Hid _ := hnd
              have hf1 : decide ((1 : Int) < fk) = false := by simp; omega
              clear hnd enod etk ak gd hz
              refine wp_named fun a0 ha0 => ?_
              have o5 := old_at ha0 (t := 5) rfl
              have o7 := old_at ha0 (t := 7) rfl
              refine wp_region_lin (S := BW wc) [] (fun _ => 0) (by kernel_rfl) (by kernel_rfl) (by rw [← ha0]; kernel_rfl) (BW.start (W := wc)) ?_
              refine' LinAll.cons _ ?_ ?_ ?_
              rotate_left 1
              · intro gg L a x hLi haft hS hK
                have t5 := (hK.old 5 (by kernel_rfl)).trans o5
                (try dsimp only at t5)
                refine go_in (wanted_all rfl) ?_
                intro K hk
                clear haft hK hLi
                go_simp
                exact hk.out gg x (fun _ _ => rfl) (hS.go)
              · intro i hi; exact Or.inl (fun _ _ _ => rfl)
              refine' LinAll.cons _ ?_ ?_ ?_
              rotate_left 1
              · intro gg L a x hLi haft hS hK
                have t94 := hK.new 0 0 _ 94 _ rfl rfl rfl (by kernel_rfl) (waits haft 0 (by kernel_rfl))
                (try dsimp only at t94)
                refine go_in (wanted_all rfl) ?_
                intro K hk
                clear haft hK hLi
                go_simp
                exact hk.out gg x (fun _ _ => rfl) (hS.go)
              · intro i hi; exact Or.inl (fun _ _ _ => rfl)
              refine' LinAll.cons _ ?_ ?_ ?_
              rotate_left 1
              · intro gg L a x hLi haft hS hK
                have t95 := hK.new 1 0 _ 95 _ rfl rfl rfl (by kernel_rfl) (waits haft 1 (by kernel_rfl))
                (try dsimp only at t95)
                refine go_in (wanted_all rfl) ?_
                intro K hk
                clear haft hK hLi
                go_simp
                exact hk.out gg x (fun _ _ => rfl) (hS.go)
              · intro i hi; exact Or.inl (fun _ _ _ => rfl)
              refine' LinAll.cons _ ?_ ?_ ?_
              rotate_left 1
              · intro gg L a x hLi haft hS hK
                have t96 := hK.new 2 0 _ 96 _ rfl rfl rfl (by kernel_rfl) (waits haft 2 (by kernel_rfl))
                (try dsimp only at t96)
                have cX := bel_cell hS.bel lw m0
                refine go_in (wanted_all rfl) ?_
                intro K hk
                clear haft hK hLi
                go_simp
                exact hk.out gg x (fun _ _ => rfl) (hS.go)
              · intro i hi; exact Or.inl (fun _ _ _ => rfl)
              refine' LinAll.cons _ ?_ ?_ ?_
              rotate_left 1
              · intro gg L a x hLi haft hS hK
                have t5 := (hK.old 5 (by kernel_rfl)).trans o5
                (try dsimp only at t5)
                refine go_in (wanted_all rfl) ?_
                intro K hk
                clear haft hK hLi
                go_simp
                exact hk.out gg x (fun _ _ => rfl) (hS.go)
              · intro i hi; exact Or.inl (fun _ _ _ => rfl)
              refine' LinAll.cons _ ?_ ?_ ?_
              rotate_left 1
              · intro gg L a x hLi haft hS hK
                have t98 := hK.new 4 0 _ 98 _ rfl rfl rfl (by kernel_rfl) (waits haft 4 (by kernel_rfl))
                (try dsimp only at t98)
                refine go_in (wanted_all rfl) ?_
                intro K hk
                clear haft hK hLi
                go_simp
                exact hk.out gg x (fun _ _ => rfl) (hS.go)
              · intro i hi; exact Or.inl (fun _ _ _ => rfl)
              refine' LinAll.cons _ ?_ ?_ ?_
              rotate_left 1
              · intro gg L a x hLi haft hS hK
                have t99 := hK.new 5 0 _ 99 _ rfl rfl rfl (by kernel_rfl) (waits haft 5 (by kernel_rfl))
                (try dsimp only at t99)
                refine go_in (wanted_all rfl) ?_
                intro K hk
                clear haft hK hLi
                go_simp
                exact hk.out gg x (fun _ _ => rfl) (hS.go)
              · intro i hi; exact Or.inl (fun _ _ _ => rfl)
              refine' LinAll.cons _ ?_ ?_ ?_
              rotate_left 1
              · intro gg L a x hLi haft hS hK
                have t100 := hK.new 6 0 _ 100 _ rfl rfl rfl (by kernel_rfl) (waits haft 6 (by kernel_rfl))
                (try dsimp only at t100)
                have cX := bel_cell hS.bel lw c3
                refine go_in (wanted_all rfl) ?_
                intro K hk
                clear haft hK hLi
                go_simp
                exact hk.out gg x (fun _ _ => rfl) (hS.go)
              · intro i hi; exact Or.inl (fun _ _ _ => rfl)
              refine' LinAll.cons _ ?_ ?_ ?_
              rotate_left 1
              · intro gg L a x hLi haft hS hK
                have t7 := (hK.old 7 (by kernel_rfl)).trans o7
                (try dsimp only at t7)
                refine go_in (wanted_all rfl) ?_
                intro K hk
                clear haft hK hLi
                go_simp
                exact hk.out gg x (fun _ _ => rfl) (hS.go)
              · intro i hi; exact Or.inl (fun _ _ _ => rfl)
              refine' LinAll.cons _ ?_ ?_ ?_
              rotate_left 1
              · intro gg L a x hLi haft hS hK
                have t101 := hK.new 7 1 _ 101 _ rfl rfl rfl (by kernel_rfl) (waits haft 7 (by kernel_rfl))
                have t102 := hK.new 8 0 _ 102 _ rfl rfl rfl (by kernel_rfl) (waits haft 8 (by kernel_rfl))
                (try dsimp only at t101 t102)
                refine go_in (wanted_all rfl) ?_
                intro K hk
                clear haft hK hLi
                go_simp
                exact hk.out gg x (fun _ _ => rfl) (hS.go)
              · intro i hi; exact Or.inl (fun _ _ _ => rfl)
              refine' LinAll.cons _ ?_ ?_ ?_
              rotate_left 1
              · intro gg L a x hLi haft hS hK
                have t103 := hK.new 9 0 _ 103 _ rfl rfl rfl (by kernel_rfl) (waits haft 9 (by kernel_rfl))
                (try dsimp only at t103)
                refine go_in (wanted_all rfl) ?_
                intro K hk
                clear haft hK hLi
                go_simp
                exact hk.out gg x (fun _ _ => rfl) (hS.go)
              · intro i hi; exact Or.inl (fun _ _ _ => rfl)
              refine' LinAll.cons _ ?_ ?_ ?_
              rotate_left 1
              · intro gg L a x hLi haft hS hK
                have t104 := hK.new 10 0 _ 104 _ rfl rfl rfl (by kernel_rfl) (waits haft 10 (by kernel_rfl))
                (try dsimp only at t104)
                have cX := bel_cell hS.bel lr d2
                refine go_in (wanted_all rfl) ?_
                intro K hk
                clear haft hK hLi
                go_simp
                exact hk.out gg x (fun _ _ => rfl) (hS.go)
              · intro i hi; exact Or.inl (fun _ _ _ => rfl)
              refine LinAll.cons (fun _ => .tuple #[.int .i64 0, .int .i64 0, .int .i64 0, .bool false]) ?_ ?_ ?_
              · intro gg L a x hLi haft hS hK
                have t97 := hK.new 3 8 _ 97 _ rfl rfl rfl (by kernel_rfl) (waits haft 3 (by kernel_rfl))
                have t105 := hK.new 11 0 _ 105 _ rfl rfl rfl (by kernel_rfl) (waits haft 11 (by kernel_rfl))
                (try dsimp only at t97 t105)
                refine go_in (wanted_all rfl) ?_
                intro K hk
                have hCX := HND.out x (hcut.out.trans (hS.bel.mono hcut.out.size))
                clear haft hK hLi
                go_simp
                refine Calls.mono hCX ?_
                rintro e y ⟨rfl, hy⟩
                exact hk.out gg y (fun _ _ => rfl) (hS.called hy)
              · intro i hi; exact Or.inl (fun _ _ _ => rfl)
              refine' LinAll.cons _ ?_ ?_ ?_
              rotate_left 1
              · intro gg L a x hLi haft hS hK
                have t106 := hK.new 12 0 _ 106 _ rfl rfl rfl (by kernel_rfl) (waits haft 12 (by kernel_rfl))
                (try dsimp only at t106)
                refine go_in (wanted_all rfl) ?_
                intro K hk
                clear haft hK hLi
                go_simp
                exact hk.out gg x (fun _ _ => rfl) (hS.go)
              · intro i hi; exact Or.inl (fun _ _ _ => rfl)
              refine' LinAll.cons _ ?_ ?_ ?_
              rotate_left 1
              · intro gg L a x hLi haft hS hK
                have t93 := hK.new 13 0 _ 93 _ rfl rfl rfl (by kernel_rfl) (waits haft 13 (by kernel_rfl))
                (try dsimp only at t93)
                refine go_in (wanted_all rfl) ?_
                intro K hk
                clear haft hK hLi
                go_simp
                exact hk.out gg x (fun _ _ => rfl) (hS.go)
              · intro i hi; exact Or.inl (fun _ _ _ => rfl)
              refine' LinAll.cons _ ?_ ?_ ?_
              rotate_left 1
              · intro gg L a x hLi haft hS hK
                have t93 := hK.new 13 1 _ 93 _ rfl rfl rfl (by kernel_rfl) (waits haft 13 (by kernel_rfl))
                (try dsimp only at t93)
                refine go_in (wanted_all rfl) ?_
                intro K hk
                clear haft hK hLi
                go_simp
                exact hk.out gg x (fun _ _ => rfl) (hS.go)
              · intro i hi; exact Or.inl (fun _ _ _ => rfl)
              refine' LinAll.cons _ ?_ ?_ ?_
              rotate_left 1
              · intro gg L a x hLi haft hS hK
                have t93 := hK.new 13 2 _ 93 _ rfl rfl rfl (by kernel_rfl) (waits haft 13 (by kernel_rfl))
                (try dsimp only at t93)
                refine go_in (wanted_all rfl) ?_
                intro K hk
                clear haft hK hLi
                go_simp
                exact hk.out gg x (fun _ _ => rfl) (hS.go)
              · intro i hi; exact Or.inl (fun _ _ _ => rfl)
              refine' LinAll.cons _ ?_ ?_ ?_
              rotate_left 1
              · intro gg L a x hLi haft hS hK
                have t93 := hK.new 13 3 _ 93 _ rfl rfl rfl (by kernel_rfl) (waits haft 13 (by kernel_rfl))
                (try dsimp only at t93)
                refine go_in (wanted_all rfl) ?_
                intro K hk
                clear haft hK hLi
                go_simp
                exact hk.out gg x (fun _ _ => rfl) (hS.go)
              · intro i hi; exact Or.inl (fun _ _ _ => rfl)
              refine' LinAll.cons _ ?_ ?_ ?_
              rotate_left 1
              · intro gg L a x hLi haft hS hK
                have t107 := hK.new 14 3 _ 107 _ rfl rfl rfl (by kernel_rfl) (waits haft 14 (by kernel_rfl))
                (try dsimp only at t107)
                refine go_in (wanted_all rfl) ?_
                intro K hk
                clear haft hK hLi
                go_simp
                exact hk.out gg x (fun _ _ => rfl) (hS.go)
              · intro i hi; exact Or.inl (fun _ _ _ => rfl)
              refine' LinAll.cons _ ?_ ?_ ?_
              rotate_left 1
              · intro gg L a x hLi haft hS hK
                have t108 := hK.new 15 3 _ 108 _ rfl rfl rfl (by kernel_rfl) (waits haft 15 (by kernel_rfl))
                (try dsimp only at t108)
                refine go_in (wanted_all rfl) ?_
                intro K hk
                clear haft hK hLi
                go_simp
                exact hk.out gg x (fun _ _ => rfl) (hS.go)
              · intro i hi; exact Or.inl (fun _ _ _ => rfl)
              refine' LinAll.cons _ ?_ ?_ ?_
              rotate_left 1
              · intro gg L a x hLi haft hS hK
                have t109 := hK.new 16 3 _ 109 _ rfl rfl rfl (by kernel_rfl) (waits haft 16 (by kernel_rfl))
                (try dsimp only at t109)
                refine go_in (wanted_all rfl) ?_
                intro K hk
                clear haft hK hLi
                go_simp
                exact hk.out gg x (fun _ _ => rfl) (hS.go)
              · intro i hi; exact Or.inl (fun _ _ _ => rfl)
              refine' LinAll.cons _ ?_ ?_ ?_
              rotate_left 1
              · intro gg L a x hLi haft hS hK
                have t110 := hK.new 17 3 _ 110 _ rfl rfl rfl (by kernel_rfl) (waits haft 17 (by kernel_rfl))
                (try dsimp only at t110)
                refine go_in (wanted_all rfl) ?_
                intro K hk
                clear haft hK hLi
                go_simp
                exact hk.out gg x (fun _ _ => rfl) (hS.go)
              · intro i hi; exact Or.inl (fun _ _ _ => rfl)
              refine LinAll.nil fun gg Y1 hS => ?_
              subst ha0
              simp only [Act.put, List.setIfInBounds_toArray, List.set_cons_zero, List.set_cons_succ]
              clear o5 o7
              have HB1Y : Hid (Below wa.heap.size wa Y1) := hcut.out.trans (hS.bel.mono hcut.out.size)
              have hz := HK.out.below HB1Y.out
              obtain ⟨-, m1', c3', -, lw1, -⟩ := hz.cells
              obtain ⟨lr1, d2', d3'⟩ := hz.hl.get' HPK.out
              dsimp only at d2' d3'
              clear hS hz m0 c3 lw lr d2
              go_upto_region 19 with fail
              refine wp_named fun a0 ha0 => ?_
              have o5 := old_at ha0 (t := 5) rfl
              have o7 := old_at ha0 (t := 7) rfl
              have o9 := old_at ha0 (t := 9) rfl
              have o10 := old_at ha0 (t := 10) rfl
              have o11 := old_at ha0 (t := 11) rfl
              have o12 := old_at ha0 (t := 12) rfl
              refine wp_region_lin (S := BW Y1) [] (fun _ => 0) (by kernel_rfl) (by kernel_rfl) (by rw [← ha0]; kernel_rfl) (BW.start) ?_
              refine' LinAll.cons _ ?_ ?_ ?_
              rotate_left 1
              · intro gg L a x hLi haft hS hK
                have t12 := (hK.old 12 (by kernel_rfl)).trans o12
                (try dsimp only at t12)
                refine go_in (wanted_all rfl) ?_
                intro K hk
                clear haft hK hLi
                go_simp
                exact hk.out gg x (fun _ _ => rfl) (hS.go)
              · intro i hi; exact Or.inl (fun _ _ _ => rfl)
              refine' LinAll.cons _ ?_ ?_ ?_
              rotate_left 1
              · intro gg L a x hLi haft hS hK
                have t5 := (hK.old 5 (by kernel_rfl)).trans o5
                (try dsimp only at t5)
                refine go_in (wanted_all rfl) ?_
                intro K hk
                clear haft hK hLi
                go_simp
                exact hk.out gg x (fun _ _ => rfl) (hS.go)
              · intro i hi; exact Or.inl (fun _ _ _ => rfl)
              refine' LinAll.cons _ ?_ ?_ ?_
              rotate_left 1
              · intro gg L a x hLi haft hS hK
                have t112 := hK.new 1 0 _ 112 _ rfl rfl rfl (by kernel_rfl) (waits haft 1 (by kernel_rfl))
                (try dsimp only at t112)
                refine go_in (wanted_all rfl) ?_
                intro K hk
                clear haft hK hLi
                go_simp
                exact hk.out gg x (fun _ _ => rfl) (hS.go)
              · intro i hi; exact Or.inl (fun _ _ _ => rfl)
              refine' LinAll.cons _ ?_ ?_ ?_
              rotate_left 1
              · intro gg L a x hLi haft hS hK
                have t113 := hK.new 2 0 _ 113 _ rfl rfl rfl (by kernel_rfl) (waits haft 2 (by kernel_rfl))
                (try dsimp only at t113)
                refine go_in (wanted_all rfl) ?_
                intro K hk
                clear haft hK hLi
                go_simp
                exact hk.out gg x (fun _ _ => rfl) (hS.go)
              · intro i hi; exact Or.inl (fun _ _ _ => rfl)
              refine' LinAll.cons _ ?_ ?_ ?_
              rotate_left 1
              · intro gg L a x hLi haft hS hK
                have t114 := hK.new 3 0 _ 114 _ rfl rfl rfl (by kernel_rfl) (waits haft 3 (by kernel_rfl))
                (try dsimp only at t114)
                have cX := bel_cell hS.bel lw1 c3'
                refine go_in (wanted_all rfl) ?_
                intro K hk
                clear haft hK hLi
                go_simp
                exact hk.out gg x (fun _ _ => rfl) (hS.go)
              · intro i hi; exact Or.inl (fun _ _ _ => rfl)
              refine' LinAll.cons _ ?_ ?_ ?_
              rotate_left 1
              · intro gg L a x hLi haft hS hK
                have t7 := (hK.old 7 (by kernel_rfl)).trans o7
                (try dsimp only at t7)
                refine go_in (wanted_all rfl) ?_
                intro K hk
                clear haft hK hLi
                go_simp
                exact hk.out gg x (fun _ _ => rfl) (hS.go)
              · intro i hi; exact Or.inl (fun _ _ _ => rfl)
              refine' LinAll.cons _ ?_ ?_ ?_
              rotate_left 1
              · intro gg L a x hLi haft hS hK
                have t115 := hK.new 4 1 _ 115 _ rfl rfl rfl (by kernel_rfl) (waits haft 4 (by kernel_rfl))
                have t116 := hK.new 5 0 _ 116 _ rfl rfl rfl (by kernel_rfl) (waits haft 5 (by kernel_rfl))
                (try dsimp only at t115 t116)
                refine go_in (wanted_all rfl) ?_
                intro K hk
                clear haft hK hLi
                go_simp
                exact hk.out gg x (fun _ _ => rfl) (hS.go)
              · intro i hi; exact Or.inl (fun _ _ _ => rfl)
              refine' LinAll.cons _ ?_ ?_ ?_
              rotate_left 1
              · intro gg L a x hLi haft hS hK
                have t117 := hK.new 6 0 _ 117 _ rfl rfl rfl (by kernel_rfl) (waits haft 6 (by kernel_rfl))
                (try dsimp only at t117)
                refine go_in (wanted_all rfl) ?_
                intro K hk
                clear haft hK hLi
                go_simp
                exact hk.out gg x (fun _ _ => rfl) (hS.go)
              · intro i hi; exact Or.inl (fun _ _ _ => rfl)
              refine' LinAll.cons _ ?_ ?_ ?_
              rotate_left 1
              · intro gg L a x hLi haft hS hK
                have t118 := hK.new 7 0 _ 118 _ rfl rfl rfl (by kernel_rfl) (waits haft 7 (by kernel_rfl))
                (try dsimp only at t118)
                have cX := bel_cell hS.bel lr1 d2'
                refine go_in (wanted_all rfl) ?_
                intro K hk
                clear haft hK hLi
                go_simp
                exact hk.out gg x (fun _ _ => rfl) (hS.go)
              · intro i hi; exact Or.inl (fun _ _ _ => rfl)
              refine LinAll.cons (fun _ => .bool false) ?_ ?_ ?_
              · intro gg L a x hLi haft hS hK
                have t119 := hK.new 8 0 _ 119 _ rfl rfl rfl (by kernel_rfl) (waits haft 8 (by kernel_rfl))
                (try dsimp only at t119)
                refine go_in (wanted_all rfl) ?_
                intro K hk
                clear haft hK hLi
                go_simp
                exact hk.out gg x (fun _ _ => rfl) hS.go
              · intro i hi; exact Or.inl (fun _ _ _ => rfl)
              refine LinAll.cons (fun _ => .bool false) ?_ ?_ ?_
              · intro gg L a x hLi haft hS hK
                have t111 := hK.new 0 9 _ 111 _ rfl rfl rfl (by kernel_rfl) (waits haft 0 (by kernel_rfl))
                have t120 := hK.new 9 0 _ 120 _ rfl rfl rfl (by kernel_rfl) (waits haft 9 (by kernel_rfl))
                (try dsimp only at t111 t120)
                refine go_in (wanted_all rfl) ?_
                intro K hk
                clear haft hK hLi
                go_simp
                exact hk.out gg x (fun _ _ => rfl) hS.go
              · intro i hi; exact Or.inl (fun _ _ _ => rfl)
              refine' LinAll.cons _ ?_ ?_ ?_
              rotate_left 1
              · intro gg L a x hLi haft hS hK
                have t121 := hK.new 10 0 _ 121 _ rfl rfl rfl (by kernel_rfl) (waits haft 10 (by kernel_rfl))
                (try dsimp only at t121)
                refine go_in (wanted_all rfl) ?_
                intro K hk
                clear haft hK hLi
                go_simp
                exact hk.out gg x (fun _ _ => rfl) (hS.go)
              · intro i hi; exact Or.inl (fun _ _ _ => rfl)
              refine' LinAll.cons _ ?_ ?_ ?_
              rotate_left 1
              · intro gg L a x hLi haft hS hK
                have t12 := (hK.old 12 (by kernel_rfl)).trans o12
                have tg := hK.new 11 0 _ 122 _ rfl rfl rfl (by kernel_rfl) (waits haft 11 (by kernel_rfl))
                (try dsimp only at t12)
                refine go_in (wanted_at rfl rfl rfl tg rfl) ?_
                intro K hk
                clear haft hK tg hLi
                go_simp
                exact hk.out gg x (fun _ _ => rfl) (hS.go)
              · intro i hi; exact Or.inl (fun _ _ _ => rfl)
              refine' LinAll.cons _ ?_ ?_ ?_
              rotate_left 1
              · intro gg L a x hLi haft hS hK
                have t123 := hK.new 12 0 _ 123 _ rfl rfl rfl (by kernel_rfl) (waits haft 12 (by kernel_rfl))
                have tg := hK.new 11 1 _ 122 _ rfl rfl rfl (by kernel_rfl) (waits haft 11 (by kernel_rfl))
                (try dsimp only at t123)
                refine go_in (wanted_at rfl rfl rfl tg rfl) ?_
                intro K hk
                clear haft hK tg hLi
                go_simp
                exact hk.out gg x (fun _ _ => rfl) (hS.go)
              · intro i hi; exact Or.inl (fun _ _ _ => rfl)
              refine LinAll.cons (fun _ => undef) ?_ ?_ ?_
              · intro gg L a x hLi haft hS hK
                have t10 := (hK.old 10 (by kernel_rfl)).trans o10
                have tg := hK.new 13 0 _ 124 _ rfl rfl rfl (by kernel_rfl) (waits haft 13 (by kernel_rfl))
                (try dsimp only at t10)
                exact go_out (wanted_at rfl rfl rfl tg rfl) ⟨rfl, hS.go⟩
              · intro i hi; exact Or.inl (fun _ _ _ => rfl)
              refine LinAll.cons (fun _ => undef) ?_ ?_ ?_
              · intro gg L a x hLi haft hS hK
                have t11 := (hK.old 11 (by kernel_rfl)).trans o11
                have tg := hK.new 13 1 _ 124 _ rfl rfl rfl (by kernel_rfl) (waits haft 13 (by kernel_rfl))
                (try dsimp only at t11)
                exact go_out (wanted_at rfl rfl rfl tg rfl) ⟨rfl, hS.go⟩
              · intro i hi; exact Or.inl (fun _ _ _ => rfl)
              refine LinAll.cons (fun _ => undef) ?_ ?_ ?_
              · intro gg L a x hLi haft hS hK
                have t125 := hK.new 14 1 _ 125 _ rfl rfl rfl (by kernel_rfl) (waits haft 14 (by kernel_rfl))
                have t126 := hK.new 15 0 _ 126 _ rfl rfl rfl (by kernel_rfl) (waits haft 15 (by kernel_rfl))
                have tg := hK.new 13 2 _ 124 _ rfl rfl rfl (by kernel_rfl) (waits haft 13 (by kernel_rfl))
                (try dsimp only at t125 t126)
                exact go_out (wanted_at rfl rfl rfl tg rfl) ⟨rfl, hS.go⟩
              · intro i hi; exact Or.inl (fun _ _ _ => rfl)
              refine LinAll.cons (fun _ => undef) ?_ ?_ ?_
              · intro gg L a x hLi haft hS hK
                have t127 := hK.new 16 0 _ 127 _ rfl rfl rfl (by kernel_rfl) (waits haft 16 (by kernel_rfl))
                have tg := hK.new 13 3 _ 124 _ rfl rfl rfl (by kernel_rfl) (waits haft 13 (by kernel_rfl))
                (try dsimp only at t127)
                exact go_out (wanted_at rfl rfl rfl tg rfl) ⟨rfl, hS.go⟩
              · intro i hi; exact Or.inl (fun _ _ _ => rfl)
              refine LinAll.cons (fun _ => undef) ?_ ?_ ?_
              · intro gg L a x hLi haft hS hK
                have t9 := (hK.old 9 (by kernel_rfl)).trans o9
                have tg := hK.new 17 0 _ 128 _ rfl rfl rfl (by kernel_rfl) (waits haft 17 (by kernel_rfl))
                (try dsimp only at t9)
                exact go_out (wanted_un rfl rfl rfl tg) ⟨rfl, hS.go⟩
              · intro i hi; exact Or.inl (fun _ _ _ => rfl)
              refine LinAll.cons (fun _ => undef) ?_ ?_ ?_
              · intro gg L a x hLi haft hS hK
                have t5 := (hK.old 5 (by kernel_rfl)).trans o5
                have tg := hK.new 17 1 _ 128 _ rfl rfl rfl (by kernel_rfl) (waits haft 17 (by kernel_rfl))
                (try dsimp only at t5)
                exact go_out (wanted_un rfl rfl rfl tg) ⟨rfl, hS.go⟩
              · intro i hi; exact Or.inl (fun _ _ _ => rfl)
              refine LinAll.cons (fun _ => undef) ?_ ?_ ?_
              · intro gg L a x hLi haft hS hK
                have t130 := hK.new 19 0 _ 130 _ rfl rfl rfl (by kernel_rfl) (waits haft 19 (by kernel_rfl))
                have tg := hK.new 17 2 _ 128 _ rfl rfl rfl (by kernel_rfl) (waits haft 17 (by kernel_rfl))
                (try dsimp only at t130)
                exact go_out (wanted_un rfl rfl rfl tg) ⟨rfl, hS.go⟩
              · intro i hi; exact Or.inl (fun _ _ _ => rfl)
              refine LinAll.cons (fun _ => undef) ?_ ?_ ?_
              · intro gg L a x hLi haft hS hK
                have t131 := hK.new 20 0 _ 131 _ rfl rfl rfl (by kernel_rfl) (waits haft 20 (by kernel_rfl))
                have tg := hK.new 17 3 _ 128 _ rfl rfl rfl (by kernel_rfl) (waits haft 17 (by kernel_rfl))
                (try dsimp only at t131)
                exact go_out (wanted_un rfl rfl rfl tg) ⟨rfl, hS.go⟩
              · intro i hi; exact Or.inl (fun _ _ _ => rfl)
              refine LinAll.cons (fun _ => undef) ?_ ?_ ?_
              · intro gg L a x hLi haft hS hK
                have t132 := hK.new 21 0 _ 132 _ rfl rfl rfl (by kernel_rfl) (waits haft 21 (by kernel_rfl))
                have tg := hK.new 17 4 _ 128 _ rfl rfl rfl (by kernel_rfl) (waits haft 17 (by kernel_rfl))
                (try dsimp only at t132)
                exact go_out (wanted_un rfl rfl rfl tg) ⟨rfl, hS.go⟩
              · intro i hi; exact Or.inl (fun _ _ _ => rfl)
              refine LinAll.cons (fun _ => undef) ?_ ?_ ?_
              · intro gg L a x hLi haft hS hK
                have t7 := (hK.old 7 (by kernel_rfl)).trans o7
                have tg := hK.new 17 5 _ 128 _ rfl rfl rfl (by kernel_rfl) (waits haft 17 (by kernel_rfl))
                (try dsimp only at t7)
                exact go_out (wanted_un rfl rfl rfl tg) ⟨rfl, hS.go⟩
              · intro i hi; exact Or.inl (fun _ _ _ => rfl)
              refine LinAll.cons (fun _ => undef) ?_ ?_ ?_
              · intro gg L a x hLi haft hS hK
                have t133 := hK.new 22 1 _ 133 _ rfl rfl rfl (by kernel_rfl) (waits haft 22 (by kernel_rfl))
                have t134 := hK.new 23 0 _ 134 _ rfl rfl rfl (by kernel_rfl) (waits haft 23 (by kernel_rfl))
                have tg := hK.new 17 6 _ 128 _ rfl rfl rfl (by kernel_rfl) (waits haft 17 (by kernel_rfl))
                (try dsimp only at t133 t134)
                exact go_out (wanted_un rfl rfl rfl tg) ⟨rfl, hS.go⟩
              · intro i hi; exact Or.inl (fun _ _ _ => rfl)
              refine LinAll.cons (fun _ => undef) ?_ ?_ ?_
              · intro gg L a x hLi haft hS hK
                have t135 := hK.new 24 0 _ 135 _ rfl rfl rfl (by kernel_rfl) (waits haft 24 (by kernel_rfl))
                have tg := hK.new 17 7 _ 128 _ rfl rfl rfl (by kernel_rfl) (waits haft 17 (by kernel_rfl))
                (try dsimp only at t135)
                exact go_out (wanted_un rfl rfl rfl tg) ⟨rfl, hS.go⟩
              · intro i hi; exact Or.inl (fun _ _ _ => rfl)
              refine LinAll.cons (fun _ => undef) ?_ ?_ ?_
              · intro gg L a x hLi haft hS hK
                have t136 := hK.new 25 0 _ 136 _ rfl rfl rfl (by kernel_rfl) (waits haft 25 (by kernel_rfl))
                have tg := hK.new 17 8 _ 128 _ rfl rfl rfl (by kernel_rfl) (waits haft 17 (by kernel_rfl))
                (try dsimp only at t136)
                exact go_out (wanted_un rfl rfl rfl tg) ⟨rfl, hS.go⟩
              · intro i hi; exact Or.inl (fun _ _ _ => rfl)
              refine LinAll.cons (fun _ => undef) ?_ ?_ ?_
              · intro gg L a x hLi haft hS hK
                have t5 := (hK.old 5 (by kernel_rfl)).trans o5
                have tg := hK.new 17 9 _ 128 _ rfl rfl rfl (by kernel_rfl) (waits haft 17 (by kernel_rfl))
                (try dsimp only at t5)
                exact go_out (wanted_un rfl rfl rfl tg) ⟨rfl, hS.go⟩
              · intro i hi; exact Or.inl (fun _ _ _ => rfl)
              refine LinAll.cons (fun _ => undef) ?_ ?_ ?_
              · intro gg L a x hLi haft hS hK
                have t138 := hK.new 27 0 _ 138 _ rfl rfl rfl (by kernel_rfl) (waits haft 27 (by kernel_rfl))
                have tg := hK.new 17 10 _ 128 _ rfl rfl rfl (by kernel_rfl) (waits haft 17 (by kernel_rfl))
                (try dsimp only at t138)
                exact go_out (wanted_un rfl rfl rfl tg) ⟨rfl, hS.go⟩
              · intro i hi; exact Or.inl (fun _ _ _ => rfl)
              refine LinAll.cons (fun _ => undef) ?_ ?_ ?_
              · intro gg L a x hLi haft hS hK
                have t139 := hK.new 28 0 _ 139 _ rfl rfl rfl (by kernel_rfl) (waits haft 28 (by kernel_rfl))
                have tg := hK.new 17 11 _ 128 _ rfl rfl rfl (by kernel_rfl) (waits haft 17 (by kernel_rfl))
                (try dsimp only at t139)
                exact go_out (wanted_un rfl rfl rfl tg) ⟨rfl, hS.go⟩
              · intro i hi; exact Or.inl (fun _ _ _ => rfl)
              refine LinAll.cons (fun _ => undef) ?_ ?_ ?_
              · intro gg L a x hLi haft hS hK
                have t140 := hK.new 29 0 _ 140 _ rfl rfl rfl (by kernel_rfl) (waits haft 29 (by kernel_rfl))
                have tg := hK.new 17 12 _ 128 _ rfl rfl rfl (by kernel_rfl) (waits haft 17 (by kernel_rfl))
                (try dsimp only at t140)
                exact go_out (wanted_un rfl rfl rfl tg) ⟨rfl, hS.go⟩
              · intro i hi; exact Or.inl (fun _ _ _ => rfl)
              refine LinAll.cons (fun _ => undef) ?_ ?_ ?_
              · intro gg L a x hLi haft hS hK
                have t137 := hK.new 26 4 _ 137 _ rfl rfl rfl (by kernel_rfl) (waits haft 26 (by kernel_rfl))
                have t141 := hK.new 30 0 _ 141 _ rfl rfl rfl (by kernel_rfl) (waits haft 30 (by kernel_rfl))
                have tg := hK.new 17 13 _ 128 _ rfl rfl rfl (by kernel_rfl) (waits haft 17 (by kernel_rfl))
                (try dsimp only at t137 t141)
                exact go_out (wanted_un rfl rfl rfl tg) ⟨rfl, hS.go⟩
              · intro i hi; exact Or.inl (fun _ _ _ => rfl)
              refine LinAll.cons (fun _ => undef) ?_ ?_ ?_
              · intro gg L a x hLi haft hS hK
                have t129 := hK.new 18 13 _ 129 _ rfl rfl rfl (by kernel_rfl) (waits haft 18 (by kernel_rfl))
                have t142 := hK.new 31 0 _ 142 _ rfl rfl rfl (by kernel_rfl) (waits haft 31 (by kernel_rfl))
                have tg := hK.new 17 14 _ 128 _ rfl rfl rfl (by kernel_rfl) (waits haft 17 (by kernel_rfl))
                (try dsimp only at t129 t142)
                exact go_out (wanted_un rfl rfl rfl tg) ⟨rfl, hS.go⟩
              · intro i hi; exact Or.inl (fun _ _ _ => rfl)
              refine LinAll.cons (fun _ => undef) ?_ ?_ ?_
              · intro gg L a x hLi haft hS hK
                have t128 := hK.new 17 15 _ 128 _ rfl rfl rfl (by kernel_rfl) (waits haft 17 (by kernel_rfl))
                have t143 := hK.new 32 0 _ 143 _ rfl rfl rfl (by kernel_rfl) (waits haft 32 (by kernel_rfl))
                have tg := hK.new 13 19 _ 124 _ rfl rfl rfl (by kernel_rfl) (waits haft 13 (by kernel_rfl))
                (try dsimp only at t128 t143)
                exact go_out (wanted_at rfl rfl rfl tg rfl) ⟨rfl, hS.go⟩
              · intro i hi; exact Or.inl (fun _ _ _ => rfl)
              refine' LinAll.cons _ ?_ ?_ ?_
              rotate_left 1
              · intro gg L a x hLi haft hS hK
                have t124 := hK.new 13 20 _ 124 _ rfl rfl rfl (by kernel_rfl) (waits haft 13 (by kernel_rfl))
                have t144 := hK.new 33 0 _ 144 _ rfl rfl rfl (by kernel_rfl) (waits haft 33 (by kernel_rfl))
                have tg := hK.new 11 22 _ 122 _ rfl rfl rfl (by kernel_rfl) (waits haft 11 (by kernel_rfl))
                (try dsimp only at t124 t144)
                refine go_in (wanted_at rfl rfl rfl tg rfl) ?_
                intro K hk
                clear haft hK tg hLi
                go_simp
                exact hk.out gg x (fun _ _ => rfl) (hS.go)
              · intro i hi; exact Or.inl (fun _ _ _ => rfl)
              refine' LinAll.cons _ ?_ ?_ ?_
              rotate_left 1
              · intro gg L a x hLi haft hS hK
                have t122 := hK.new 11 23 _ 122 _ rfl rfl rfl (by kernel_rfl) (waits haft 11 (by kernel_rfl))
                have t145 := hK.new 34 0 _ 145 _ rfl rfl rfl (by kernel_rfl) (waits haft 34 (by kernel_rfl))
                (try dsimp only at t122 t145)
                refine go_in (wanted_all rfl) ?_
                intro K hk
                clear haft hK hLi
                go_simp
                exact hk.out gg x (fun _ _ => rfl) (hS.go)
              · intro i hi; exact Or.inl (fun _ _ _ => rfl)
              refine LinAll.nil fun gg Y2 hS => ?_
              subst ha0
              simp only [Act.put, List.setIfInBounds_toArray, List.set_cons_zero, List.set_cons_succ]
              clear o5 o7 o9 o10 o11 o12
              have HB2Y : Hid (Below wa.heap.size wa Y2) := HB1Y.out.trans (hS.bel.mono HB1Y.out.size)
              clear hS m1' c3' lw1 lr1 d2' d3' hf1 HND
              go_wp2_with fail
              go_loopw [13] (fun x wq => Hid (Below wa.heap.size wa wq)) (fun x wq => 0)
              case atStart => exact HB2Y.out
              case round =>
                have hkB : (k : Int) < 1000 := by have := HLT.out; omega
                go_wp2_with fail
                exact ⟨⟨k + 1, by omega, by go_num, hrel.out⟩, by simp [intOf]; omega⟩
        · have hkI : decide ((k : Int) < (M : Int)) = false := by simp; omega
          have m4 := (HK.out.below hQ.out).cells.2.2.2.1
          go_wp2_with fail
          go_ret
          exact ⟨rfl, HB1.out.trans ((HK.out.bel.trans (hQ.out.mono HK.out.bel.size)).mono HB1.out.size)⟩
end Go.Proofs.YtohfjpahdoodgaaDoor
