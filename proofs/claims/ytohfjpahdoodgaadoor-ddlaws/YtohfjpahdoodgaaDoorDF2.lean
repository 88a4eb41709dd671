/- DdLaws: the walk. -/
import Derived.Test.YtohfjpahdoodgaaDoorDF1
import Derived.Test.YtohfjpahdoodgaaDoorPD1
import Derived.Deep.CutBlock
namespace Go.Proofs.YtohfjpahdoodgaaDoor
open Go.RowKit
set_option linter.unusedSimpArgs false
set_option linter.unusedVariables false

set_option maxRecDepth 20000 in
set_option maxHeartbeats 6400000 in
theorem laws_law (nn qi qj qk : Int) (W : World) {s : Option Addr} {cap : Nat} {l : List Sp4} (hLa : La W s l) (hOk : ∀ s ∈ l, Sk s) (hmx : l.length ≤ maxLen) :
    Calls Tryd.prog 6 #[.int .i64 nn, .slice s l.length cap, .int .i64 qi, .int .i64 qj, .int .i64 qk] W fun e w' => e = .returned (.bool true) ∧ Below W.heap.size W w' := by
  have HLA : Hid (La W s l) := hLa
  obtain ⟨N, hN⟩ : ∃ N, N = l.length := ⟨_, rfl⟩
  rw [← hN] at hmx ⊢
  have HN : Hid (N = l.length) := hN
  have HMX : Hid (N ≤ maxLen) := hmx
  have hK : Hid _ := known_any W
  clear hLa hOk hN hmx
  go_enter Tryd.func6, Tryd.ntmps6
  go_wp2_with fail
  refine Calls.mono hK.out ?_
  rintro e w1 ⟨rfl, hb1⟩
  have HB1 : Hid (Below W.heap.size W w1) := hb1
  clear hK hb1
  by_cases hlong : 40 < N
  · have hl1 : (40 : Int) < (N : Int) := by omega
    go_wp2_with fail
    go_ret
    exact ⟨rfl, HB1.out⟩
  · have hl1 : decide ((40 : Int) < (N : Int)) = false := by simp; omega
    obtain ⟨n, hn⟩ : ∃ n : Nat, (n : Int) = nn % 7 := ⟨(nn % 7).toNat, Int.toNat_of_nonneg (Int.emod_nonneg _ (by decide))⟩
    have hn6 : n ≤ 6 := by have := Int.emod_lt_of_pos nn (show (0 : Int) < 7 by decide); omega
    have HBG : Hid _ := begun_any nn 16384 w1 hn
    have HP : Hid (2 ^ n ≤ 64 ∧ 1 ≤ 2 ^ n) := ⟨Nat.le_trans (Nat.pow_le_pow_right (by decide) hn6) (by decide), Nat.one_le_two_pow⟩
    clear hn
    go_wp2_with fail
    refine Calls.mono HBG.out ?_
    rintro e w2 ⟨wb, F, lv, g, H, rfl, hf, pu, hl2⟩
    have HPU : Hid (Pu n (St0 n) (fun _ => 0) H) := pu
    have HL2 : Hid (H.length = 2) := hl2
    go_upto_region 6 with fail
    obtain ⟨w3, hw3⟩ : ∃ w3, w3 = w2.alloc (.cells #[.pointer (some ⟨wb, 0, none⟩)] 24) := ⟨_, rfl⟩
    have hbk : w3.heap[w2.heap.size]? = some (.cells #[.pointer (some ⟨wb, 0, none⟩)] 24 (0, 0)) := by rw [hw3]; exact heap_alloc_new _ _
    have hb3 : Below w2.heap.size w2 w3 := by rw [hw3]; exact (Below.refl _ _).alloc (Nat.le_refl _) _
    obtain ⟨bw, hbw⟩ : ∃ bw, bw = w2.heap.size := ⟨_, rfl⟩
    rw [← hw3, ← hbw]
    have HF : Hid (Hf ((wx w1).add bw (#[.pointer (some ⟨wb, 0, none⟩)], 24)) w3 (Fc w2 F) wb lv g n (mostOf 16384) (St0 n) (fun _ => 0) H) := (hf.cut.below hb3).add ⟨show (24 : TypeId) ≠ 36 by decide, show (24 : TypeId) ≠ 29 by decide⟩ (by rw [hbw]; exact hbk) (fun q => by have := q.2; omega)
    clear hf pu hl2 HBG hw3 hbk hb3 hbw
    go_upto_block 0 with fail
    go_cut [12] from 29 to 48 (fun _ xw => Hid (∃ F lv S pn H, Hf ((wx w1).add bw (#[.pointer (some ⟨wb, 0, none⟩)], 24)) xw F wb lv g n (mostOf 16384) S pn H ∧ Pu n S pn H ∧ cntF S.ns ≤ 2560 ∧ H.length ≤ 30))
    case first =>
      go_wp2_with fail
      go_loopw [12] (fun x wr => ∃ i : Nat, i ≤ N ∧ x = .int .i64 (i : Int) ∧ Hid (∃ F lv S pn H, Hf ((wx w1).add bw (#[.pointer (some ⟨wb, 0, none⟩)], 24)) wr F wb lv g n (mostOf 16384) S pn H ∧ Pu n S pn H ∧ cntF S.ns ≤ i * 2 ^ n ∧ H.length ≤ 30)) (fun x wr => N - (intOf x).toNat)
      case atStart => exact ⟨0, Nat.zero_le _, rfl, _, lv, _, _, H, HF.out, HPU.out, by rw [Nat.zero_mul]; exact Nat.le_refl 0, by rw [HL2.out]; decide⟩
      case round =>
        clear HF HPU HL2
        obtain ⟨i, hi, rfl, hH⟩ := hrel
        obtain ⟨F, lv, S, pn, H, hf, pu, hc, hl⟩ := hH.out
        obtain ⟨-, -, m3, -, hwl, -⟩ := hf.cells
        have h2 := pu.len
        obtain ⟨rl, cl, hlv, -⟩ := hf.hl.get (j := 0) (p := H[0]) (by rw [List.getElem?_eq_getElem])
        subst hlv
        have HF : Hid (Hf ((wx w1).add bw (#[.pointer (some ⟨wb, 0, none⟩)], 24)) wr F wb (.slice (some ⟨rl, 0, none⟩) H.length cl) g n (mostOf 16384) S pn H) := hf
        have HPU : Hid (Pu n S pn H) := pu
        have HC : Hid (cntF S.ns ≤ i * 2 ^ n) := hc
        have HC2 : Hid (cntF S.ns ≤ 2560) := by
          unfold Hid
          have h2 := HP.out.1
          have h3 : i * 2 ^ n ≤ 40 * 64 := Nat.mul_le_mul (by omega) h2
          omega
        obtain ⟨M, hM⟩ : ∃ M, M = H.length := ⟨_, rfl⟩
        rw [← hM] at m3 h2 hl
        have HM : Hid (M = H.length) := hM
        have cbw := cell_of (hf.xb bw _ (if_pos rfl)).2.1 0 rfl
        have lbw := blk_lt (hf.xb bw _ (if_pos rfl)).2.1
        clear hf pu hc hH hM
        by_cases hin : i < N
        · have hiI : (i : Int) < (N : Int) := by omega
          by_cases hfew : M < 30
          · have hM40 : (M : Int) < 30 := by omega
            obtain ⟨st, hst⟩ : ∃ st, l[i]? = some st := ⟨_, List.getElem?_eq_getElem (by rw [← HN.out]; exact hin)⟩
            have hbW : Below W.heap.size W wr := HB1.out.trans (HF.out.bel.mono HB1.out.size)
            obtain ⟨sg, so, rfl, hsg, hLn⟩ : ∃ g o, s = some ⟨g, o, none⟩ ∧ g < wr.heap.size ∧ Ln wr g o l := by
              rcases HLA.out.below hbW with e | h
              · rw [e] at hst; simp at hst
              · exact h
            have t0 := hLn i st hst 0 _ rfl
            have t1 := hLn i st hst 1 _ rfl
            have t2 := hLn i st hst 2 _ rfl
            have t3 := hLn i st hst 3 _ rfl
            rw [Nat.add_zero] at t0
            have HDO : Hid (∀ x, Below wr.heap.size wr x → Calls Tryd.prog 10 #[.pointer (some ⟨wb, 0, none⟩), .agg #[.int .i64 st.what, .int .i64 st.a, .int .i64 st.b, .int .i64 st.c]] x fun e w' => e = .returned (.tuple #[]) ∧ DoR ((wx w1).add bw (#[.pointer (some ⟨wb, 0, none⟩)], 24)) w' wb g n (mostOf 16384) S H) := fun x hx => does_any (HF.out.below hx) HPU.out (by omega) (by
              have h1 := HC2.out
              have h2 := HP.out.1
              have : mostOf 16384 = 16384 := by decide
              omega) (by rw [← HM.out]; omega) st.what st.a st.b st.c
            clear hLn hst hbW
            go_upto_region 9 with fail
            refine wp_named fun a0 ha0 => ?_
            have o1 := old_at ha0 (t := 1) rfl
            have o11 := old_at ha0 (t := 11) rfl
            have o12 := old_at ha0 (t := 12) rfl
            refine wp_region_lin (S := OS wr 5 (fun y _ => DoR ((wx w1).add bw (#[.pointer (some ⟨wb, 0, none⟩)], 24)) y wb g n (mostOf 16384) S H)) [] (fun _ => 0) (by kernel_rfl) (by kernel_rfl) (by rw [← ha0]; kernel_rfl) (OS.start) ?_
            refine' LinAll.cons _ ?_ ?_ ?_
            rotate_left 1
            · intro gg L a x hLi haft hS hK
              have t11 := (hK.old 11 (by kernel_rfl)).trans o11
              (try dsimp only at t11)
              have h5 : L 5 = false := off_b (fun e => waits (hK.cl 5 _ rfl e) 0 (by kernel_rfl)) hLi
              have hx := hS.a h5
              have cX : x.cell? ⟨bw, 0, none⟩ = some (.pointer (some ⟨wb, 0, none⟩)) := by rw [hx]; exact cbw
              clear hx h5
              refine go_in (wanted_all rfl) ?_
              intro K hk
              clear haft hK hLi
              go_simp
              exact hk.out gg x (fun _ _ => rfl) (hS.go (by decide))
            · intro i hi; exact Or.inl (fun _ _ _ => rfl)
            refine' LinAll.cons _ ?_ ?_ ?_
            rotate_left 1
            · intro gg L a x hLi haft hS hK
              have t1 := (hK.old 1 (by kernel_rfl)).trans o1
              (try dsimp only at t1)
              refine go_in (wanted_all rfl) ?_
              intro K hk
              clear haft hK hLi
              go_simp
              exact hk.out gg x (fun _ _ => rfl) (hS.go (by decide))
            · intro i hi; exact Or.inl (fun _ _ _ => rfl)
            refine' LinAll.cons _ ?_ ?_ ?_
            rotate_left 1
            · intro gg L a x hLi haft hS hK
              have t12 := (hK.old 12 (by kernel_rfl)).trans o12
              (try dsimp only at t12)
              refine go_in (wanted_all rfl) ?_
              intro K hk
              clear haft hK hLi
              go_simp
              exact hk.out gg x (fun _ _ => rfl) (hS.go (by decide))
            · intro i hi; exact Or.inl (fun _ _ _ => rfl)
            refine' LinAll.cons _ ?_ ?_ ?_
            rotate_left 1
            · intro gg L a x hLi haft hS hK
              have t44 := hK.new 1 1 _ 44 _ rfl rfl rfl (by kernel_rfl) (waits haft 1 (by kernel_rfl))
              have t45 := hK.new 2 0 _ 45 _ rfl rfl rfl (by kernel_rfl) (waits haft 2 (by kernel_rfl))
              (try dsimp only at t44 t45)
              refine go_in (wanted_all rfl) ?_
              intro K hk
              clear haft hK hLi
              go_simp
              exact hk.out gg x (fun _ _ => rfl) (hS.go (by decide))
            · intro i hi; exact Or.inl (fun _ _ _ => rfl)
            refine' LinAll.cons _ ?_ ?_ ?_
            rotate_left 1
            · intro gg L a x hLi haft hS hK
              have t46 := hK.new 3 0 _ 46 _ rfl rfl rfl (by kernel_rfl) (waits haft 3 (by kernel_rfl))
              (try dsimp only at t46)
              have h5 : L 5 = false := off_b (fun e => waits (hK.cl 5 _ rfl e) 4 (by kernel_rfl)) hLi
              have hx := hS.a h5
              have cX0 : x.cell? ⟨sg, so + i * 4, none⟩ = some (.int .i64 st.what) := by rw [hx]; exact t0
              have cX1 : x.cell? ⟨sg, so + i * 4 + 1, none⟩ = some (.int .i64 st.a) := by rw [hx]; exact t1
              have cX2 : x.cell? ⟨sg, so + i * 4 + 2, none⟩ = some (.int .i64 st.b) := by rw [hx]; exact t2
              have cX3 : x.cell? ⟨sg, so + i * 4 + 3, none⟩ = some (.int .i64 st.c) := by rw [hx]; exact t3
              clear hx h5
              refine go_in (wanted_all rfl) ?_
              intro K hk
              clear haft hK hLi
              go_simp
              exact hk.out gg x (fun _ _ => rfl) (hS.go (by decide))
            · intro i hi; exact Or.inl (fun _ _ _ => rfl)
            refine LinAll.cons (fun _ => .tuple #[]) ?_ ?_ ?_
            · intro gg L a x hLi haft hS hK
              have t43 := hK.new 0 4 _ 43 _ rfl rfl rfl (by kernel_rfl) (waits haft 0 (by kernel_rfl))
              have t47 := hK.new 4 0 _ 47 _ rfl rfl rfl (by kernel_rfl) (waits haft 4 (by kernel_rfl))
              (try dsimp only at t43 t47)
              have hx := hS.a hLi
              refine go_in (wanted_all rfl) ?_
              intro K hk
              clear haft hK hLi
              subst hx
              go_simp
              refine Calls.mono (HDO.out _ (Below.refl _ _).drew) ?_
              rintro e y ⟨rfl, hy⟩
              exact hk.out gg y (fun _ _ => rfl) ⟨(fun e => by rw [updB_eq] at e; cases e), fun _ => hy⟩
            · intro i hi; exact Or.inl (fun _ _ _ => rfl)
            refine LinAll.nil fun gy Y1 hS => ?_
            subst ha0
            simp only [Act.put, List.setIfInBounds_toArray, List.set_cons_zero, List.set_cons_succ]
            clear o1 o11 o12
            have hD := hS.b (by kernel_rfl)
            clear hS t0 t1 t2 t3 cbw
            obtain ⟨F', lv', S', pn', H', hf', pu', hg', hl'⟩ := hD
            have HEND : Hid (∃ F lv S pn H, Hf ((wx w1).add bw (#[.pointer (some ⟨wb, 0, none⟩)], 24)) Y1 F wb lv g n (mostOf 16384) S pn H ∧ Pu n S pn H ∧ cntF S.ns ≤ (i + 1) * 2 ^ n ∧ H.length ≤ 30) := ⟨F', lv', S', pn', H', hf', pu', by have := hg'.cnt; have := HC.out; rw [Nat.add_mul]; omega, by have := HM.out; omega⟩
            clear hf' pu' hg' hl'
            go_wp2_with fail
            exact ⟨⟨i + 1, by omega, by go_num, HEND.out⟩, by simp [intOf]; omega⟩
          · have hM40 : decide ((M : Int) < 30) = false := by simp; omega
            have HX : Hid (∃ F lv S pn H, Hf ((wx w1).add bw (#[.pointer (some ⟨wb, 0, none⟩)], 24)) wr F wb lv g n (mostOf 16384) S pn H ∧ Pu n S pn H ∧ cntF S.ns ≤ 2560 ∧ H.length ≤ 30) := ⟨F, _, S, pn, H, HF.out, HPU.out, HC2.out, by rw [← HM.out]; exact hl⟩
            go_wp2_with fail
            go_meet
            case rel => exact HX
        · have hiI : decide ((i : Int) < (N : Int)) = false := by simp; omega
          have HX : Hid (∃ F lv S pn H, Hf ((wx w1).add bw (#[.pointer (some ⟨wb, 0, none⟩)], 24)) wr F wb lv g n (mostOf 16384) S pn H ∧ Pu n S pn H ∧ cntF S.ns ≤ 2560 ∧ H.length ≤ 30) := ⟨F, _, S, pn, H, HF.out, HPU.out, HC2.out, by rw [← HM.out]; exact hl⟩
          go_wp2_with fail
          go_meet
          case rel => exact HX
    case rest =>
      clear HF HPU HL2
      obtain ⟨F, lv, S, pn, H, hf, pu, hc, hl⟩ := hcut.out
      clear hcut
      have cbw := cell_of (hf.xb bw _ (if_pos rfl)).2.1 0 rfl
      have lbw := blk_lt (hf.xb bw _ (if_pos rfl)).2.1
      have hl2 := pu.len
      obtain ⟨ka, hka⟩ : ∃ ka : Nat, (ka : Int) = qi % (H.length : Int) := ⟨(qi % (H.length : Int)).toNat, Int.toNat_of_nonneg (Int.emod_nonneg _ (by omega))⟩
      obtain ⟨⟨fa, va, ta⟩, hpa⟩ : ∃ p, H[ka]? = some p := ⟨_, List.getElem?_eq_getElem (by have := Int.emod_lt_of_pos qi (show (0 : Int) < (H.length : Int) by omega); omega)⟩
      have HAA : Hid (∀ wx, Below wc.heap.size wc wx → Calls Tryd.prog 30 #[.pointer (some ⟨wb, 0, none⟩), .int .i64 qi] wx fun e w' => e = .returned (.agg #[.int .i64 fa, va]) ∧ Below wx.heap.size wx w') := fun wx hb => at_any (hf.below hb) qi hka hpa
      have HFA : Hid (Fv n S fa (fun x => val n S.ns x fa)) := Fv.of (pu.al _ (List.mem_of_getElem? hpa)).1
      obtain ⟨kb, hkb⟩ : ∃ ka : Nat, (ka : Int) = qj % (H.length : Int) := ⟨(qj % (H.length : Int)).toNat, Int.toNat_of_nonneg (Int.emod_nonneg _ (by omega))⟩
      obtain ⟨⟨fb, vb, tb⟩, hpb⟩ : ∃ p, H[kb]? = some p := ⟨_, List.getElem?_eq_getElem (by have := Int.emod_lt_of_pos qj (show (0 : Int) < (H.length : Int) by omega); omega)⟩
      have HAB : Hid (∀ wx, Below wc.heap.size wc wx → Calls Tryd.prog 30 #[.pointer (some ⟨wb, 0, none⟩), .int .i64 qj] wx fun e w' => e = .returned (.agg #[.int .i64 fb, vb]) ∧ Below wx.heap.size wx w') := fun wx hb => at_any (hf.below hb) qj hkb hpb
      have HFB : Hid (Fv n S fb (fun x => val n S.ns x fb)) := Fv.of (pu.al _ (List.mem_of_getElem? hpb)).1
      obtain ⟨kc, hkc⟩ : ∃ ka : Nat, (ka : Int) = qk % (H.length : Int) := ⟨(qk % (H.length : Int)).toNat, Int.toNat_of_nonneg (Int.emod_nonneg _ (by omega))⟩
      obtain ⟨⟨fc, vc, tc⟩, hpc⟩ : ∃ p, H[kc]? = some p := ⟨_, List.getElem?_eq_getElem (by have := Int.emod_lt_of_pos qk (show (0 : Int) < (H.length : Int) by omega); omega)⟩
      have HAC : Hid (∀ wx, Below wc.heap.size wc wx → Calls Tryd.prog 30 #[.pointer (some ⟨wb, 0, none⟩), .int .i64 qk] wx fun e w' => e = .returned (.agg #[.int .i64 fc, vc]) ∧ Below wx.heap.size wx w') := fun wx hb => at_any (hf.below hb) qk hkc hpc
      have HFC : Hid (Fv n S fc (fun x => val n S.ns x fc)) := Fv.of (pu.al _ (List.mem_of_getElem? hpc)).1
      have HFF : Hid _ := hf
      have HPN : Hid (∀ f, pn f ≤ ((60 : Nat) : Int)) := fun f => by have := pu.pn f; have := pu.few f; omega
      have HCN : Hid (cntF S.ns ≤ 64 * 60) := by unfold Hid; omega
      clear hf pu hc hl hl2 hka hkb hkc hpa hpb hpc
      go_upto_region 10 with fail
      refine wp_named fun a0 ha0 => ?_
      have o2 := old_at ha0 (t := 2) rfl
      have o3 := old_at ha0 (t := 3) rfl
      have o4 := old_at ha0 (t := 4) rfl
      have o11 := old_at ha0 (t := 11) rfl
      refine wp_region_lin (S := BW wc) [] (fun _ => 0) (by kernel_rfl) (by kernel_rfl) (by rw [← ha0]; kernel_rfl) (BW.start) ?_
      refine' LinAll.cons _ ?_ ?_ ?_
      rotate_left 1
      · intro gg L a x hLi haft hS hK
        have t11 := (hK.old 11 (by kernel_rfl)).trans o11
        (try dsimp only at t11)
        have cX := bel_cell hS.bel lbw cbw
        refine go_in (wanted_all rfl) ?_
        intro K hk
        clear haft hK hLi
        go_simp
        exact hk.out gg x (fun _ _ => rfl) (hS.go)
      · intro i hi; exact Or.inl (fun _ _ _ => rfl)
      refine' LinAll.cons _ ?_ ?_ ?_
      rotate_left 1
      · intro gg L a x hLi haft hS hK
        have t2 := (hK.old 2 (by kernel_rfl)).trans o2
        (try dsimp only at t2)
        refine go_in (wanted_all rfl) ?_
        intro K hk
        clear haft hK hLi
        go_simp
        exact hk.out gg x (fun _ _ => rfl) (hS.go)
      · intro i hi; exact Or.inl (fun _ _ _ => rfl)
      refine LinAll.cons (fun _ => .agg #[.int .i64 fa, va]) ?_ ?_ ?_
      · intro gg L a x hLi haft hS hK
        have t49 := hK.new 0 1 _ 49 _ rfl rfl rfl (by kernel_rfl) (waits haft 0 (by kernel_rfl))
        have t50 := hK.new 1 0 _ 50 _ rfl rfl rfl (by kernel_rfl) (waits haft 1 (by kernel_rfl))
        (try dsimp only at t49 t50)
        refine go_in (wanted_all rfl) ?_
        intro K hk
        have hCX := HAA.out x hS.bel
        clear haft hK hLi
        go_simp
        refine Calls.mono hCX ?_
        rintro e y ⟨rfl, hy⟩
        exact hk.out gg y (fun _ _ => rfl) (hS.called hy)
      · intro i hi; exact Or.inl (fun _ _ _ => rfl)
      refine' LinAll.cons _ ?_ ?_ ?_
      rotate_left 1
      · intro gg L a x hLi haft hS hK
        have t51 := hK.new 2 0 _ 51 _ rfl rfl rfl (by kernel_rfl) (waits haft 2 (by kernel_rfl))
        (try dsimp only at t51)
        refine go_in (wanted_all rfl) ?_
        intro K hk
        clear haft hK hLi
        go_simp
        exact hk.out gg x (fun _ _ => rfl) (hS.go)
      · intro i hi; exact Or.inl (fun _ _ _ => rfl)
      refine' LinAll.cons _ ?_ ?_ ?_
      rotate_left 1
      · intro gg L a x hLi haft hS hK
        have t11 := (hK.old 11 (by kernel_rfl)).trans o11
        (try dsimp only at t11)
        have cX := bel_cell hS.bel lbw cbw
        refine go_in (wanted_all rfl) ?_
        intro K hk
        clear haft hK hLi
        go_simp
        exact hk.out gg x (fun _ _ => rfl) (hS.go)
      · intro i hi; exact Or.inl (fun _ _ _ => rfl)
      refine' LinAll.cons _ ?_ ?_ ?_
      rotate_left 1
      · intro gg L a x hLi haft hS hK
        have t3 := (hK.old 3 (by kernel_rfl)).trans o3
        (try dsimp only at t3)
        refine go_in (wanted_all rfl) ?_
        intro K hk
        clear haft hK hLi
        go_simp
        exact hk.out gg x (fun _ _ => rfl) (hS.go)
      · intro i hi; exact Or.inl (fun _ _ _ => rfl)
      refine LinAll.cons (fun _ => .agg #[.int .i64 fb, vb]) ?_ ?_ ?_
      · intro gg L a x hLi haft hS hK
        have t53 := hK.new 4 1 _ 53 _ rfl rfl rfl (by kernel_rfl) (waits haft 4 (by kernel_rfl))
        have t54 := hK.new 5 0 _ 54 _ rfl rfl rfl (by kernel_rfl) (waits haft 5 (by kernel_rfl))
        (try dsimp only at t53 t54)
        refine go_in (wanted_all rfl) ?_
        intro K hk
        have hCX := HAB.out x hS.bel
        clear haft hK hLi
        go_simp
        refine Calls.mono hCX ?_
        rintro e y ⟨rfl, hy⟩
        exact hk.out gg y (fun _ _ => rfl) (hS.called hy)
      · intro i hi; exact Or.inl (fun _ _ _ => rfl)
      refine' LinAll.cons _ ?_ ?_ ?_
      rotate_left 1
      · intro gg L a x hLi haft hS hK
        have t55 := hK.new 6 0 _ 55 _ rfl rfl rfl (by kernel_rfl) (waits haft 6 (by kernel_rfl))
        (try dsimp only at t55)
        refine go_in (wanted_all rfl) ?_
        intro K hk
        clear haft hK hLi
        go_simp
        exact hk.out gg x (fun _ _ => rfl) (hS.go)
      · intro i hi; exact Or.inl (fun _ _ _ => rfl)
      refine' LinAll.cons _ ?_ ?_ ?_
      rotate_left 1
      · intro gg L a x hLi haft hS hK
        have t11 := (hK.old 11 (by kernel_rfl)).trans o11
        (try dsimp only at t11)
        have cX := bel_cell hS.bel lbw cbw
        refine go_in (wanted_all rfl) ?_
        intro K hk
        clear haft hK hLi
        go_simp
        exact hk.out gg x (fun _ _ => rfl) (hS.go)
      · intro i hi; exact Or.inl (fun _ _ _ => rfl)
      refine' LinAll.cons _ ?_ ?_ ?_
      rotate_left 1
      · intro gg L a x hLi haft hS hK
        have t4 := (hK.old 4 (by kernel_rfl)).trans o4
        (try dsimp only at t4)
        refine go_in (wanted_all rfl) ?_
        intro K hk
        clear haft hK hLi
        go_simp
        exact hk.out gg x (fun _ _ => rfl) (hS.go)
      · intro i hi; exact Or.inl (fun _ _ _ => rfl)
      refine LinAll.cons (fun _ => .agg #[.int .i64 fc, vc]) ?_ ?_ ?_
      · intro gg L a x hLi haft hS hK
        have t57 := hK.new 8 1 _ 57 _ rfl rfl rfl (by kernel_rfl) (waits haft 8 (by kernel_rfl))
        have t58 := hK.new 9 0 _ 58 _ rfl rfl rfl (by kernel_rfl) (waits haft 9 (by kernel_rfl))
        (try dsimp only at t57 t58)
        refine go_in (wanted_all rfl) ?_
        intro K hk
        have hCX := HAC.out x hS.bel
        clear haft hK hLi
        go_simp
        refine Calls.mono hCX ?_
        rintro e y ⟨rfl, hy⟩
        exact hk.out gg y (fun _ _ => rfl) (hS.called hy)
      · intro i hi; exact Or.inl (fun _ _ _ => rfl)
      refine' LinAll.cons _ ?_ ?_ ?_
      rotate_left 1
      · intro gg L a x hLi haft hS hK
        have t59 := hK.new 10 0 _ 59 _ rfl rfl rfl (by kernel_rfl) (waits haft 10 (by kernel_rfl))
        (try dsimp only at t59)
        refine go_in (wanted_all rfl) ?_
        intro K hk
        clear haft hK hLi
        go_simp
        exact hk.out gg x (fun _ _ => rfl) (hS.go)
      · intro i hi; exact Or.inl (fun _ _ _ => rfl)
      refine' LinAll.cons _ ?_ ?_ ?_
      rotate_left 1
      · intro gg L a x hLi haft hS hK
        have t52 := hK.new 3 8 _ 52 _ rfl rfl rfl (by kernel_rfl) (waits haft 3 (by kernel_rfl))
        (try dsimp only at t52)
        refine go_in (wanted_all rfl) ?_
        intro K hk
        clear haft hK hLi
        go_simp
        exact hk.out gg x (fun _ _ => rfl) (hS.go)
      · intro i hi; exact Or.inl (fun _ _ _ => rfl)
      refine' LinAll.cons _ ?_ ?_ ?_
      rotate_left 1
      · intro gg L a x hLi haft hS hK
        have t56 := hK.new 7 5 _ 56 _ rfl rfl rfl (by kernel_rfl) (waits haft 7 (by kernel_rfl))
        (try dsimp only at t56)
        refine go_in (wanted_all rfl) ?_
        intro K hk
        clear haft hK hLi
        go_simp
        exact hk.out gg x (fun _ _ => rfl) (hS.go)
      · intro i hi; exact Or.inl (fun _ _ _ => rfl)
      refine' LinAll.cons _ ?_ ?_ ?_
      rotate_left 1
      · intro gg L a x hLi haft hS hK
        have t60 := hK.new 11 2 _ 60 _ rfl rfl rfl (by kernel_rfl) (waits haft 11 (by kernel_rfl))
        (try dsimp only at t60)
        refine go_in (wanted_all rfl) ?_
        intro K hk
        clear haft hK hLi
        go_simp
        exact hk.out gg x (fun _ _ => rfl) (hS.go)
      · intro i hi; exact Or.inl (fun _ _ _ => rfl)
      refine LinAll.nil fun gg Y1 hS => ?_
      subst ha0
      simp only [Act.put, List.setIfInBounds_toArray, List.set_cons_zero, List.set_cons_succ]
      clear o2 o3 o4 o11
      have HB1Y := hS.bel
      have cbw' := bel_cell hS.bel lbw cbw
      have lbw' := Nat.lt_of_lt_of_le lbw hS.bel.size
      have HFY : Hid _ := (HFF.out.below hS.bel).cut
      obtain ⟨m0, -, -, -, lw, -⟩ := HFY.out.cells
      clear hS cbw lbw HAA HAB HAC
      go_upto_region 12 with fail
      obtain ⟨Y2, hY2⟩ : ∃ Y2, Y2 = Y1.alloc (.cells #[.pointer (some ⟨g, 0, none⟩)] 26) := ⟨_, rfl⟩
      have hmk : Y2.heap[Y1.heap.size]? = some (.cells #[.pointer (some ⟨g, 0, none⟩)] 26 (0, 0)) := by rw [hY2]; exact heap_alloc_new _ _
      have hb2 : Below Y1.heap.size Y1 Y2 := by rw [hY2]; exact (Below.refl _ _).alloc (Nat.le_refl _) _
      obtain ⟨bm, hbm⟩ : ∃ bm, bm = Y1.heap.size := ⟨_, rfl⟩
      rw [← hY2, ← hbm]
      have HF2 := HFY.out.below hb2
      have HK0 : Hid (KW ((wx w1).add bw (#[.pointer (some ⟨wb, 0, none⟩)], 24)) Y2 bm bw wb g n 60 S (fun x => val n S.ns x fa) (fun x => val n S.ns x fb) (fun x => val n S.ns x fc) [(fa, .a), (fb, .b), (fc, .c), (0, .o), (1, .i)]) := by
        refine ⟨⟨⟨_, _, _, _, HF2, fun q => by have := q.2; omega, (HF2.xb bw _ (if_pos rfl)).2.2, HPN.out⟩, by rw [hbm]; exact hmk, (HF2.xb bw _ (if_pos rfl)).2.1, HCN.out⟩, fun p hp => ?_⟩
        simp only [List.mem_cons, List.not_mem_nil, or_false] at hp
        rcases hp with rfl | rfl | rfl | rfl | rfl
        · exact HFA.out
        · exact HFB.out
        · exact HFC.out
        · exact Fv.c0 HFF.out.rm.good
        · exact Fv.c1 HFF.out.rm.good
      have HBB : Hid (Below W.heap.size W w1) := HB1.out
      clear hY2 hmk hb2 hbm HF2 cbw' lbw' m0 lw HFY HB1Y HFA HFB HFC HPN HCN HFF
      go_wp2_with fail
      refine Calls.mono (and_cl HK0.out.lw (by decide) (by decide) hn6 (HK0.out.k _ (.head _)) (HK0.out.k _ (.tail _ (.head _)))) ?_
      rintro e Z1 ⟨r1, S1, rfl, hl, hp, hv⟩
      have HK1 : Hid _ := HK0.out.more (e := .an (.a) (.b)) hl hp hv
      clear hl hp hv HK0
      go_wp2_with fail
      refine Calls.mono (not_cl HK1.out.lw (by decide) (by decide) hn6 (HK1.out.k _ (.head _))) ?_
      rintro e Z2 ⟨r2, S2, rfl, hl, hp, hv⟩
      have HK2 : Hid _ := HK1.out.more (e := .nt (.an (.a) (.b))) hl hp hv
      clear hl hp hv HK1
      go_wp2_with fail
      refine Calls.mono (not_cl HK2.out.lw (by decide) (by decide) hn6 (HK2.out.k _ (.tail _ (.tail _ (.head _))))) ?_
      rintro e Z3 ⟨r3, S3, rfl, hl, hp, hv⟩
      have HK3 : Hid _ := HK2.out.more (e := .nt (.a)) hl hp hv
      clear hl hp hv HK2
      go_wp2_with fail
      refine Calls.mono (not_cl HK3.out.lw (by decide) (by decide) hn6 (HK3.out.k _ (.tail _ (.tail _ (.tail _ (.tail _ (.head _))))))) ?_
      rintro e Z4 ⟨r4, S4, rfl, hl, hp, hv⟩
      have HK4 : Hid _ := HK3.out.more (e := .nt (.b)) hl hp hv
      clear hl hp hv HK3
      go_wp2_with fail
      refine Calls.mono (or_cl HK4.out.lw (by decide) (by decide) hn6 (HK4.out.k _ (.tail _ (.head _))) (HK4.out.k _ (.head _))) ?_
      rintro e Z5 ⟨r5, S5, rfl, hl, hp, hv⟩
      have HK5 : Hid _ := HK4.out.more (e := .orr (.nt (.a)) (.nt (.b))) hl hp hv
      clear hl hp hv HK4
      obtain rfl : r2 = r5 := HK5.out.eq (.tail _ (.tail _ (.tail _ (.head _)))) (.head _) (by decide)
      go_wp2_with fail
      refine Calls.mono (or_cl HK5.out.lw (by decide) (by decide) hn6 (HK5.out.k _ (.tail _ (.tail _ (.tail _ (.tail _ (.tail _ (.tail _ (.head _)))))))) (HK5.out.k _ (.tail _ (.tail _ (.tail _ (.tail _ (.tail _ (.tail _ (.tail _ (.head _)))))))))) ?_
      rintro e Z6 ⟨r6, S6, rfl, hl, hp, hv⟩
      have HK6 : Hid _ := HK5.out.more (e := .orr (.b) (.c)) hl hp hv
      clear hl hp hv HK5
      go_wp2_with fail
      refine Calls.mono (and_cl HK6.out.lw (by decide) (by decide) hn6 (HK6.out.k _ (.tail _ (.tail _ (.tail _ (.tail _ (.tail _ (.tail _ (.head _)))))))) (HK6.out.k _ (.head _))) ?_
      rintro e Z7 ⟨r7, S7, rfl, hl, hp, hv⟩
      have HK7 : Hid _ := HK6.out.more (e := .an (.a) (.orr (.b) (.c))) hl hp hv
      clear hl hp hv HK6
      go_wp2_with fail
      refine Calls.mono (and_cl HK7.out.lw (by decide) (by decide) hn6 (HK7.out.k _ (.tail _ (.tail _ (.tail _ (.tail _ (.tail _ (.tail _ (.tail _ (.head _))))))))) (HK7.out.k _ (.tail _ (.tail _ (.tail _ (.tail _ (.tail _ (.tail _ (.tail _ (.tail _ (.head _))))))))))) ?_
      rintro e Z8 ⟨r8, S8, rfl, hl, hp, hv⟩
      have HK8 : Hid _ := HK7.out.more (e := .an (.a) (.b)) hl hp hv
      clear hl hp hv HK7
      go_wp2_with fail
      refine Calls.mono (and_cl HK8.out.lw (by decide) (by decide) hn6 (HK8.out.k _ (.tail _ (.tail _ (.tail _ (.tail _ (.tail _ (.tail _ (.tail _ (.tail _ (.head _)))))))))) (HK8.out.k _ (.tail _ (.tail _ (.tail _ (.tail _ (.tail _ (.tail _ (.tail _ (.tail _ (.tail _ (.tail _ (.head _))))))))))))) ?_
      rintro e Z9 ⟨r9, S9, rfl, hl, hp, hv⟩
      have HK9 : Hid _ := HK8.out.more (e := .an (.a) (.c)) hl hp hv
      clear hl hp hv HK8
      go_wp2_with fail
      refine Calls.mono (or_cl HK9.out.lw (by decide) (by decide) hn6 (HK9.out.k _ (.tail _ (.head _))) (HK9.out.k _ (.head _))) ?_
      rintro e Z10 ⟨r10, S10, rfl, hl, hp, hv⟩
      have HK10 : Hid _ := HK9.out.more (e := .orr (.an (.a) (.b)) (.an (.a) (.c))) hl hp hv
      clear hl hp hv HK9
      obtain rfl : r7 = r10 := HK10.out.eq (.tail _ (.tail _ (.tail _ (.head _)))) (.head _) (by decide)
      go_wp2_with fail
      refine Calls.mono (and_cl HK10.out.lw (by decide) (by decide) hn6 (HK10.out.k _ (.tail _ (.tail _ (.tail _ (.tail _ (.tail _ (.tail _ (.tail _ (.tail _ (.tail _ (.tail _ (.tail _ (.head _))))))))))))) (HK10.out.k _ (.tail _ (.tail _ (.tail _ (.tail _ (.tail _ (.tail _ (.tail _ (.tail _ (.tail _ (.tail _ (.tail _ (.tail _ (.head _))))))))))))))) ?_
      rintro e Z11 ⟨r11, S11, rfl, hl, hp, hv⟩
      have HK11 : Hid _ := HK10.out.more (e := .an (.b) (.c)) hl hp hv
      clear hl hp hv HK10
      go_wp2_with fail
      refine Calls.mono (or_cl HK11.out.lw (by decide) (by decide) hn6 (HK11.out.k _ (.tail _ (.tail _ (.tail _ (.tail _ (.tail _ (.tail _ (.tail _ (.tail _ (.tail _ (.tail _ (.tail _ (.head _))))))))))))) (HK11.out.k _ (.head _))) ?_
      rintro e Z12 ⟨r12, S12, rfl, hl, hp, hv⟩
      have HK12 : Hid _ := HK11.out.more (e := .orr (.a) (.an (.b) (.c))) hl hp hv
      clear hl hp hv HK11
      go_wp2_with fail
      refine Calls.mono (or_cl HK12.out.lw (by decide) (by decide) hn6 (HK12.out.k _ (.tail _ (.tail _ (.tail _ (.tail _ (.tail _ (.tail _ (.tail _ (.tail _ (.tail _ (.tail _ (.tail _ (.tail _ (.head _)))))))))))))) (HK12.out.k _ (.tail _ (.tail _ (.tail _ (.tail _ (.tail _ (.tail _ (.tail _ (.tail _ (.tail _ (.tail _ (.tail _ (.tail _ (.tail _ (.head _)))))))))))))))) ?_
      rintro e Z13 ⟨r13, S13, rfl, hl, hp, hv⟩
      have HK13 : Hid _ := HK12.out.more (e := .orr (.a) (.b)) hl hp hv
      clear hl hp hv HK12
      go_wp2_with fail
      refine Calls.mono (or_cl HK13.out.lw (by decide) (by decide) hn6 (HK13.out.k _ (.tail _ (.tail _ (.tail _ (.tail _ (.tail _ (.tail _ (.tail _ (.tail _ (.tail _ (.tail _ (.tail _ (.tail _ (.tail _ (.head _))))))))))))))) (HK13.out.k _ (.tail _ (.tail _ (.tail _ (.tail _ (.tail _ (.tail _ (.tail _ (.tail _ (.tail _ (.tail _ (.tail _ (.tail _ (.tail _ (.tail _ (.tail _ (.head _)))))))))))))))))) ?_
      rintro e Z14 ⟨r14, S14, rfl, hl, hp, hv⟩
      have HK14 : Hid _ := HK13.out.more (e := .orr (.a) (.c)) hl hp hv
      clear hl hp hv HK13
      go_wp2_with fail
      refine Calls.mono (and_cl HK14.out.lw (by decide) (by decide) hn6 (HK14.out.k _ (.tail _ (.head _))) (HK14.out.k _ (.head _))) ?_
      rintro e Z15 ⟨r15, S15, rfl, hl, hp, hv⟩
      have HK15 : Hid _ := HK14.out.more (e := .an (.orr (.a) (.b)) (.orr (.a) (.c))) hl hp hv
      clear hl hp hv HK14
      obtain rfl : r12 = r15 := HK15.out.eq (.tail _ (.tail _ (.tail _ (.head _)))) (.head _) (by decide)
      go_wp2_with fail
      refine Calls.mono (and_cl HK15.out.lw (by decide) (by decide) hn6 (HK15.out.k _ (.tail _ (.tail _ (.tail _ (.tail _ (.tail _ (.tail _ (.tail _ (.tail _ (.tail _ (.tail _ (.tail _ (.tail _ (.tail _ (.tail _ (.tail _ (.head _))))))))))))))))) (HK15.out.k _ (.tail _ (.tail _ (.tail _ (.tail _ (.tail _ (.tail _ (.tail _ (.tail _ (.tail _ (.tail _ (.tail _ (.tail _ (.tail _ (.tail _ (.tail _ (.tail _ (.head _))))))))))))))))))) ?_
      rintro e Z16 ⟨r16, S16, rfl, hl, hp, hv⟩
      have HK16 : Hid _ := HK15.out.more (e := .an (.a) (.b)) hl hp hv
      clear hl hp hv HK15
      go_wp2_with fail
      refine Calls.mono (or_cl HK16.out.lw (by decide) (by decide) hn6 (HK16.out.k _ (.tail _ (.tail _ (.tail _ (.tail _ (.tail _ (.tail _ (.tail _ (.tail _ (.tail _ (.tail _ (.tail _ (.tail _ (.tail _ (.tail _ (.tail _ (.tail _ (.head _)))))))))))))))))) (HK16.out.k _ (.head _))) ?_
      rintro e Z17 ⟨r17, S17, rfl, hl, hp, hv⟩
      have HK17 : Hid _ := HK16.out.more (e := .orr (.a) (.an (.a) (.b))) hl hp hv
      clear hl hp hv HK16
      obtain rfl : fa = r17 := HK17.out.eq (.tail _ (.tail _ (.tail _ (.tail _ (.tail _ (.tail _ (.tail _ (.tail _ (.tail _ (.tail _ (.tail _ (.tail _ (.tail _ (.tail _ (.tail _ (.tail _ (.tail _ (.head _)))))))))))))))))) (.head _) (by decide)
      go_wp2_with fail
      refine Calls.mono (not_cl HK17.out.lw (by decide) (by decide) hn6 (HK17.out.k _ (.head _))) ?_
      rintro e Z18 ⟨r18, S18, rfl, hl, hp, hv⟩
      have HK18 : Hid _ := HK17.out.more (e := .nt (.orr (.a) (.an (.a) (.b)))) hl hp hv
      clear hl hp hv HK17
      go_wp2_with fail
      refine Calls.mono (not_cl HK18.out.lw (by decide) (by decide) hn6 (HK18.out.k _ (.head _))) ?_
      rintro e Z19 ⟨r19, S19, rfl, hl, hp, hv⟩
      have HK19 : Hid _ := HK18.out.more (e := .nt (.nt (.orr (.a) (.an (.a) (.b))))) hl hp hv
      clear hl hp hv HK18
      obtain rfl : fa = r19 := HK19.out.eq (.tail _ (.tail _ (.head _))) (.head _) (by decide)
      go_wp2_with fail
      refine Calls.mono (xor_cl HK19.out.lw (by decide) (by decide) hn6 (HK19.out.k _ (.head _)) (HK19.out.k _ (.tail _ (.tail _ (.tail _ (.tail _ (.tail _ (.tail _ (.tail _ (.tail _ (.tail _ (.tail _ (.tail _ (.tail _ (.tail _ (.tail _ (.tail _ (.tail _ (.tail _ (.tail _ (.tail _ (.tail _ (.head _))))))))))))))))))))))) ?_
      rintro e Z20 ⟨r20, S20, rfl, hl, hp, hv⟩
      have HK20 : Hid _ := HK19.out.more (e := .xr (.nt (.nt (.orr (.a) (.an (.a) (.b))))) (.b)) hl hp hv
      clear hl hp hv HK19
      go_wp2_with fail
      refine Calls.mono (not_cl HK20.out.lw (by decide) (by decide) hn6 (HK20.out.k _ (.tail _ (.tail _ (.tail _ (.tail _ (.tail _ (.tail _ (.tail _ (.tail _ (.tail _ (.tail _ (.tail _ (.tail _ (.tail _ (.tail _ (.tail _ (.tail _ (.tail _ (.tail _ (.tail _ (.tail _ (.tail _ (.head _)))))))))))))))))))))))) ?_
      rintro e Z21 ⟨r21, S21, rfl, hl, hp, hv⟩
      have HK21 : Hid _ := HK20.out.more (e := .nt (.b)) hl hp hv
      clear hl hp hv HK20
      go_wp2_with fail
      refine Calls.mono (and_cl HK21.out.lw (by decide) (by decide) hn6 (HK21.out.k _ (.tail _ (.tail _ (.head _)))) (HK21.out.k _ (.head _))) ?_
      rintro e Z22 ⟨r22, S22, rfl, hl, hp, hv⟩
      have HK22 : Hid _ := HK21.out.more (e := .an (.nt (.nt (.orr (.a) (.an (.a) (.b))))) (.nt (.b))) hl hp hv
      clear hl hp hv HK21
      go_wp2_with fail
      refine Calls.mono (not_cl HK22.out.lw (by decide) (by decide) hn6 (HK22.out.k _ (.tail _ (.tail _ (.tail _ (.head _)))))) ?_
      rintro e Z23 ⟨r23, S23, rfl, hl, hp, hv⟩
      have HK23 : Hid _ := HK22.out.more (e := .nt (.nt (.nt (.orr (.a) (.an (.a) (.b)))))) hl hp hv
      clear hl hp hv HK22
      go_wp2_with fail
      refine Calls.mono (and_cl HK23.out.lw (by decide) (by decide) hn6 (HK23.out.k _ (.head _)) (HK23.out.k _ (.tail _ (.tail _ (.tail _ (.tail _ (.tail _ (.tail _ (.tail _ (.tail _ (.tail _ (.tail _ (.tail _ (.tail _ (.tail _ (.tail _ (.tail _ (.tail _ (.tail _ (.tail _ (.tail _ (.tail _ (.tail _ (.tail _ (.tail _ (.tail _ (.head _))))))))))))))))))))))))))) ?_
      rintro e Z24 ⟨r24, S24, rfl, hl, hp, hv⟩
      have HK24 : Hid _ := HK23.out.more (e := .an (.nt (.nt (.nt (.orr (.a) (.an (.a) (.b)))))) (.b)) hl hp hv
      clear hl hp hv HK23
      go_wp2_with fail
      refine Calls.mono (or_cl HK24.out.lw (by decide) (by decide) hn6 (HK24.out.k _ (.tail _ (.tail _ (.head _)))) (HK24.out.k _ (.head _))) ?_
      rintro e Z25 ⟨r25, S25, rfl, hl, hp, hv⟩
      have HK25 : Hid _ := HK24.out.more (e := .orr (.an (.nt (.nt (.orr (.a) (.an (.a) (.b))))) (.nt (.b))) (.an (.nt (.nt (.nt (.orr (.a) (.an (.a) (.b)))))) (.b))) hl hp hv
      clear hl hp hv HK24
      obtain rfl : r20 = r25 := HK25.out.eq (.tail _ (.tail _ (.tail _ (.tail _ (.tail _ (.head _)))))) (.head _) (by decide)
      go_wp2_with fail
      refine Calls.mono (xor_cl HK25.out.lw (by decide) (by decide) hn6 (HK25.out.k _ (.tail _ (.tail _ (.tail _ (.tail _ (.tail _ (.tail _ (.head _)))))))) (HK25.out.k _ (.tail _ (.tail _ (.tail _ (.tail _ (.tail _ (.tail _ (.head _))))))))) ?_
      rintro e Z26 ⟨r26, S26, rfl, hl, hp, hv⟩
      have HK26 : Hid _ := HK25.out.more (e := .xr (.nt (.nt (.orr (.a) (.an (.a) (.b))))) (.nt (.nt (.orr (.a) (.an (.a) (.b)))))) hl hp hv
      clear hl hp hv HK25
      obtain rfl : (0 : Int) = r26 := HK26.out.eq (.tail _ (.tail _ (.tail _ (.tail _ (.tail _ (.tail _ (.tail _ (.tail _ (.tail _ (.tail _ (.tail _ (.tail _ (.tail _ (.tail _ (.tail _ (.tail _ (.tail _ (.tail _ (.tail _ (.tail _ (.tail _ (.tail _ (.tail _ (.tail _ (.tail _ (.tail _ (.tail _ (.tail _ (.tail _ (.head _)))))))))))))))))))))))))))))) (.head _) (by decide)
      go_wp2_with fail
      refine Calls.mono (ite_cl HK26.out.lw (by decide) (by decide) hn6 (HK26.out.k _ (.tail _ (.tail _ (.tail _ (.tail _ (.tail _ (.tail _ (.tail _ (.head _))))))))) (HK26.out.k _ (.tail _ (.tail _ (.tail _ (.tail _ (.tail _ (.tail _ (.tail _ (.tail _ (.tail _ (.tail _ (.tail _ (.tail _ (.tail _ (.tail _ (.tail _ (.tail _ (.tail _ (.tail _ (.tail _ (.tail _ (.tail _ (.tail _ (.tail _ (.tail _ (.tail _ (.tail _ (.tail _ (.head _))))))))))))))))))))))))))))) (HK26.out.k _ (.tail _ (.tail _ (.tail _ (.tail _ (.tail _ (.tail _ (.tail _ (.tail _ (.tail _ (.tail _ (.tail _ (.tail _ (.tail _ (.tail _ (.tail _ (.tail _ (.tail _ (.tail _ (.tail _ (.tail _ (.tail _ (.tail _ (.tail _ (.tail _ (.tail _ (.tail _ (.tail _ (.tail _ (.head _))))))))))))))))))))))))))))))) ?_
      rintro e Z27 ⟨r27, S27, rfl, hl, hp, hv⟩
      have HK27 : Hid _ := HK26.out.more (e := .it (.nt (.nt (.orr (.a) (.an (.a) (.b))))) (.b) (.c)) hl hp hv
      clear hl hp hv HK26
      go_wp2_with fail
      refine Calls.mono (and_cl HK27.out.lw (by decide) (by decide) hn6 (HK27.out.k _ (.tail _ (.tail _ (.tail _ (.tail _ (.tail _ (.tail _ (.tail _ (.tail _ (.head _)))))))))) (HK27.out.k _ (.tail _ (.tail _ (.tail _ (.tail _ (.tail _ (.tail _ (.tail _ (.tail _ (.tail _ (.tail _ (.tail _ (.tail _ (.tail _ (.tail _ (.tail _ (.tail _ (.tail _ (.tail _ (.tail _ (.tail _ (.tail _ (.tail _ (.tail _ (.tail _ (.tail _ (.tail _ (.tail _ (.tail _ (.head _))))))))))))))))))))))))))))))) ?_
      rintro e Z28 ⟨r28, S28, rfl, hl, hp, hv⟩
      have HK28 : Hid _ := HK27.out.more (e := .an (.nt (.nt (.orr (.a) (.an (.a) (.b))))) (.b)) hl hp hv
      clear hl hp hv HK27
      go_wp2_with fail
      refine Calls.mono (not_cl HK28.out.lw (by decide) (by decide) hn6 (HK28.out.k _ (.tail _ (.tail _ (.tail _ (.tail _ (.tail _ (.tail _ (.tail _ (.tail _ (.tail _ (.head _)))))))))))) ?_
      rintro e Z29 ⟨r29, S29, rfl, hl, hp, hv⟩
      have HK29 : Hid _ := HK28.out.more (e := .nt (.nt (.nt (.orr (.a) (.an (.a) (.b)))))) hl hp hv
      clear hl hp hv HK28
      go_wp2_with fail
      refine Calls.mono (and_cl HK29.out.lw (by decide) (by decide) hn6 (HK29.out.k _ (.head _)) (HK29.out.k _ (.tail _ (.tail _ (.tail _ (.tail _ (.tail _ (.tail _ (.tail _ (.tail _ (.tail _ (.tail _ (.tail _ (.tail _ (.tail _ (.tail _ (.tail _ (.tail _ (.tail _ (.tail _ (.tail _ (.tail _ (.tail _ (.tail _ (.tail _ (.tail _ (.tail _ (.tail _ (.tail _ (.tail _ (.tail _ (.tail _ (.tail _ (.head _)))))))))))))))))))))))))))))))))) ?_
      rintro e Z30 ⟨r30, S30, rfl, hl, hp, hv⟩
      have HK30 : Hid _ := HK29.out.more (e := .an (.nt (.nt (.nt (.orr (.a) (.an (.a) (.b)))))) (.c)) hl hp hv
      clear hl hp hv HK29
      go_wp2_with fail
      refine Calls.mono (or_cl HK30.out.lw (by decide) (by decide) hn6 (HK30.out.k _ (.tail _ (.tail _ (.head _)))) (HK30.out.k _ (.head _))) ?_
      rintro e Z31 ⟨r31, S31, rfl, hl, hp, hv⟩
      have HK31 : Hid _ := HK30.out.more (e := .orr (.an (.nt (.nt (.orr (.a) (.an (.a) (.b))))) (.b)) (.an (.nt (.nt (.nt (.orr (.a) (.an (.a) (.b)))))) (.c))) hl hp hv
      clear hl hp hv HK30
      obtain rfl : r27 = r31 := HK31.out.eq (.tail _ (.tail _ (.tail _ (.tail _ (.head _))))) (.head _) (by decide)
      go_wp2_with fail
      refine Calls.mono (ite_cl HK31.out.lw (by decide) (by decide) hn6 (HK31.out.k _ (.tail _ (.tail _ (.tail _ (.tail _ (.tail _ (.tail _ (.tail _ (.tail _ (.tail _ (.tail _ (.tail _ (.tail _ (.tail _ (.tail _ (.tail _ (.tail _ (.tail _ (.tail _ (.tail _ (.tail _ (.tail _ (.tail _ (.tail _ (.tail _ (.tail _ (.tail _ (.tail _ (.tail _ (.tail _ (.tail _ (.tail _ (.tail _ (.tail _ (.head _))))))))))))))))))))))))))))))))))) (HK31.out.k _ (.tail _ (.tail _ (.tail _ (.tail _ (.tail _ (.tail _ (.tail _ (.tail _ (.tail _ (.tail _ (.tail _ (.tail _ (.head _)))))))))))))) (HK31.out.k _ (.tail _ (.tail _ (.tail _ (.tail _ (.tail _ (.tail _ (.tail _ (.tail _ (.tail _ (.tail _ (.tail _ (.tail _ (.head _))))))))))))))) ?_
      rintro e Z32 ⟨r32, S32, rfl, hl, hp, hv⟩
      have HK32 : Hid _ := HK31.out.more (e := .it (.c) (.nt (.nt (.orr (.a) (.an (.a) (.b))))) (.nt (.nt (.orr (.a) (.an (.a) (.b)))))) hl hp hv
      clear hl hp hv HK31
      obtain rfl : fa = r32 := HK32.out.eq (.tail _ (.tail _ (.tail _ (.tail _ (.tail _ (.tail _ (.tail _ (.tail _ (.tail _ (.tail _ (.tail _ (.tail _ (.tail _ (.head _)))))))))))))) (.head _) (by decide)
      go_wp2_with fail
      refine Calls.mono (not_cl HK32.out.lw (by decide) (by decide) hn6 (HK32.out.k _ (.tail _ (.tail _ (.tail _ (.tail _ (.tail _ (.tail _ (.tail _ (.tail _ (.tail _ (.tail _ (.tail _ (.tail _ (.tail _ (.tail _ (.tail _ (.tail _ (.tail _ (.tail _ (.tail _ (.tail _ (.tail _ (.tail _ (.tail _ (.tail _ (.tail _ (.tail _ (.tail _ (.tail _ (.tail _ (.tail _ (.tail _ (.tail _ (.tail _ (.tail _ (.head _))))))))))))))))))))))))))))))))))))) ?_
      rintro e Z33 ⟨r33, S33, rfl, hl, hp, hv⟩
      have HK33 : Hid _ := HK32.out.more (e := .nt (.c)) hl hp hv
      clear hl hp hv HK32
      go_wp2_with fail
      refine Calls.mono (ite_cl HK33.out.lw (by decide) (by decide) hn6 (HK33.out.k _ (.head _)) (HK33.out.k _ (.tail _ (.head _))) (HK33.out.k _ (.tail _ (.tail _ (.tail _ (.tail _ (.tail _ (.tail _ (.tail _ (.tail _ (.tail _ (.tail _ (.tail _ (.tail _ (.tail _ (.tail _ (.tail _ (.tail _ (.tail _ (.tail _ (.tail _ (.tail _ (.tail _ (.tail _ (.tail _ (.tail _ (.tail _ (.tail _ (.tail _ (.tail _ (.tail _ (.tail _ (.tail _ (.tail _ (.tail _ (.tail _ (.head _))))))))))))))))))))))))))))))))))))) ?_
      rintro e Z34 ⟨r34, S34, rfl, hl, hp, hv⟩
      have HK34 : Hid _ := HK33.out.more (e := .it (.nt (.c)) (.it (.c) (.nt (.nt (.orr (.a) (.an (.a) (.b))))) (.nt (.nt (.orr (.a) (.an (.a) (.b)))))) (.b)) hl hp hv
      clear hl hp hv HK33
      go_wp2_with fail
      refine Calls.mono (ite_cl HK34.out.lw (by decide) (by decide) hn6 (HK34.out.k _ (.tail _ (.tail _ (.tail _ (.tail _ (.tail _ (.tail _ (.tail _ (.tail _ (.tail _ (.tail _ (.tail _ (.tail _ (.tail _ (.tail _ (.tail _ (.tail _ (.tail _ (.tail _ (.tail _ (.tail _ (.tail _ (.tail _ (.tail _ (.tail _ (.tail _ (.tail _ (.tail _ (.tail _ (.tail _ (.tail _ (.tail _ (.tail _ (.tail _ (.tail _ (.tail _ (.tail _ (.head _)))))))))))))))))))))))))))))))))))))) (HK34.out.k _ (.tail _ (.tail _ (.tail _ (.tail _ (.tail _ (.tail _ (.tail _ (.tail _ (.tail _ (.tail _ (.tail _ (.tail _ (.tail _ (.tail _ (.tail _ (.tail _ (.tail _ (.tail _ (.tail _ (.tail _ (.tail _ (.tail _ (.tail _ (.tail _ (.tail _ (.tail _ (.tail _ (.tail _ (.tail _ (.tail _ (.tail _ (.tail _ (.tail _ (.tail _ (.tail _ (.head _))))))))))))))))))))))))))))))))))))) (HK34.out.k _ (.tail _ (.tail _ (.head _))))) ?_
      rintro e Z35 ⟨r35, S35, rfl, hl, hp, hv⟩
      have HK35 : Hid _ := HK34.out.more (e := .it (.c) (.b) (.it (.c) (.nt (.nt (.orr (.a) (.an (.a) (.b))))) (.nt (.nt (.orr (.a) (.an (.a) (.b))))))) hl hp hv
      clear hl hp hv HK34
      obtain rfl : r34 = r35 := HK35.out.eq (.tail _ (.head _)) (.head _) (by decide)
      go_wp2_with fail
      refine Calls.mono (xor_cl HK35.out.lw (by decide) (by decide) hn6 (HK35.out.k _ (.tail _ (.tail _ (.tail _ (.head _))))) (HK35.out.k _ (.tail _ (.tail _ (.tail _ (.tail _ (.tail _ (.tail _ (.tail _ (.tail _ (.tail _ (.tail _ (.tail _ (.tail _ (.tail _ (.tail _ (.tail _ (.tail _ (.tail _ (.tail _ (.tail _ (.tail _ (.tail _ (.tail _ (.tail _ (.tail _ (.tail _ (.tail _ (.tail _ (.tail _ (.tail _ (.tail _ (.tail _ (.tail _ (.tail _ (.tail _ (.tail _ (.tail _ (.head _))))))))))))))))))))))))))))))))))))))) ?_
      rintro e Z36 ⟨r36, S36, rfl, hl, hp, hv⟩
      have HK36 : Hid _ := HK35.out.more (e := .xr (.it (.c) (.nt (.nt (.orr (.a) (.an (.a) (.b))))) (.nt (.nt (.orr (.a) (.an (.a) (.b)))))) (.b)) hl hp hv
      clear hl hp hv HK35
      go_wp2_with fail
      refine Calls.mono (xor_cl HK36.out.lw (by decide) (by decide) hn6 (HK36.out.k _ (.head _)) (HK36.out.k _ (.tail _ (.tail _ (.tail _ (.tail _ (.tail _ (.tail _ (.tail _ (.tail _ (.tail _ (.tail _ (.tail _ (.tail _ (.tail _ (.tail _ (.tail _ (.tail _ (.tail _ (.tail _ (.tail _ (.tail _ (.tail _ (.tail _ (.tail _ (.tail _ (.tail _ (.tail _ (.tail _ (.tail _ (.tail _ (.tail _ (.tail _ (.tail _ (.tail _ (.tail _ (.tail _ (.tail _ (.tail _ (.tail _ (.head _))))))))))))))))))))))))))))))))))))))))) ?_
      rintro e Z37 ⟨r37, S37, rfl, hl, hp, hv⟩
      have HK37 : Hid _ := HK36.out.more (e := .xr (.xr (.it (.c) (.nt (.nt (.orr (.a) (.an (.a) (.b))))) (.nt (.nt (.orr (.a) (.an (.a) (.b)))))) (.b)) (.c)) hl hp hv
      clear hl hp hv HK36
      go_wp2_with fail
      refine Calls.mono (xor_cl HK37.out.lw (by decide) (by decide) hn6 (HK37.out.k _ (.tail _ (.tail _ (.tail _ (.tail _ (.tail _ (.tail _ (.tail _ (.tail _ (.tail _ (.tail _ (.tail _ (.tail _ (.tail _ (.tail _ (.tail _ (.tail _ (.tail _ (.tail _ (.tail _ (.tail _ (.tail _ (.tail _ (.tail _ (.tail _ (.tail _ (.tail _ (.tail _ (.tail _ (.tail _ (.tail _ (.tail _ (.tail _ (.tail _ (.tail _ (.tail _ (.tail _ (.tail _ (.tail _ (.head _)))))))))))))))))))))))))))))))))))))))) (HK37.out.k _ (.tail _ (.tail _ (.tail _ (.tail _ (.tail _ (.tail _ (.tail _ (.tail _ (.tail _ (.tail _ (.tail _ (.tail _ (.tail _ (.tail _ (.tail _ (.tail _ (.tail _ (.tail _ (.tail _ (.tail _ (.tail _ (.tail _ (.tail _ (.tail _ (.tail _ (.tail _ (.tail _ (.tail _ (.tail _ (.tail _ (.tail _ (.tail _ (.tail _ (.tail _ (.tail _ (.tail _ (.tail _ (.tail _ (.tail _ (.head _)))))))))))))))))))))))))))))))))))))))))) ?_
      rintro e Z38 ⟨r38, S38, rfl, hl, hp, hv⟩
      have HK38 : Hid _ := HK37.out.more (e := .xr (.b) (.c)) hl hp hv
      clear hl hp hv HK37
      go_wp2_with fail
      refine Calls.mono (xor_cl HK38.out.lw (by decide) (by decide) hn6 (HK38.out.k _ (.tail _ (.tail _ (.tail _ (.tail _ (.tail _ (.tail _ (.head _)))))))) (HK38.out.k _ (.head _))) ?_
      rintro e Z39 ⟨r39, S39, rfl, hl, hp, hv⟩
      have HK39 : Hid _ := HK38.out.more (e := .xr (.it (.c) (.nt (.nt (.orr (.a) (.an (.a) (.b))))) (.nt (.nt (.orr (.a) (.an (.a) (.b)))))) (.xr (.b) (.c))) hl hp hv
      clear hl hp hv HK38
      obtain rfl : r37 = r39 := HK39.out.eq (.tail _ (.tail _ (.head _))) (.head _) (by decide)
      go_wp2_with fail
      refine Calls.mono (not_cl HK39.out.lw (by decide) (by decide) hn6 (HK39.out.k _ (.tail _ (.tail _ (.tail _ (.tail _ (.tail _ (.tail _ (.tail _ (.head _)))))))))) ?_
      rintro e Z40 ⟨r40, S40, rfl, hl, hp, hv⟩
      have HK40 : Hid _ := HK39.out.more (e := .nt (.it (.c) (.nt (.nt (.orr (.a) (.an (.a) (.b))))) (.nt (.nt (.orr (.a) (.an (.a) (.b))))))) hl hp hv
      clear hl hp hv HK39
      go_wp2_with fail
      refine Calls.mono (and_cl HK40.out.lw (by decide) (by decide) hn6 (HK40.out.k _ (.tail _ (.tail _ (.tail _ (.tail _ (.tail _ (.tail _ (.tail _ (.tail _ (.head _)))))))))) (HK40.out.k _ (.head _))) ?_
      rintro e Z41 ⟨r41, S41, rfl, hl, hp, hv⟩
      have HK41 : Hid _ := HK40.out.more (e := .an (.it (.c) (.nt (.nt (.orr (.a) (.an (.a) (.b))))) (.nt (.nt (.orr (.a) (.an (.a) (.b)))))) (.nt (.it (.c) (.nt (.nt (.orr (.a) (.an (.a) (.b))))) (.nt (.nt (.orr (.a) (.an (.a) (.b)))))))) hl hp hv
      clear hl hp hv HK40
      obtain rfl : (0 : Int) = r41 := HK41.out.eq (.tail _ (.tail _ (.tail _ (.tail _ (.tail _ (.tail _ (.tail _ (.tail _ (.tail _ (.tail _ (.tail _ (.tail _ (.tail _ (.tail _ (.tail _ (.head _)))))))))))))))) (.head _) (by decide)
      go_wp2_with fail
      refine Calls.mono (not_cl HK41.out.lw (by decide) (by decide) hn6 (HK41.out.k _ (.tail _ (.tail _ (.tail _ (.tail _ (.tail _ (.tail _ (.tail _ (.tail _ (.tail _ (.head _)))))))))))) ?_
      rintro e Z42 ⟨r42, S42, rfl, hl, hp, hv⟩
      have HK42 : Hid _ := HK41.out.more (e := .nt (.it (.c) (.nt (.nt (.orr (.a) (.an (.a) (.b))))) (.nt (.nt (.orr (.a) (.an (.a) (.b))))))) hl hp hv
      clear hl hp hv HK41
      go_wp2_with fail
      refine Calls.mono (or_cl HK42.out.lw (by decide) (by decide) hn6 (HK42.out.k _ (.tail _ (.tail _ (.tail _ (.tail _ (.tail _ (.tail _ (.tail _ (.tail _ (.tail _ (.tail _ (.head _)))))))))))) (HK42.out.k _ (.head _))) ?_
      rintro e Z43 ⟨r43, S43, rfl, hl, hp, hv⟩
      have HK43 : Hid _ := HK42.out.more (e := .orr (.it (.c) (.nt (.nt (.orr (.a) (.an (.a) (.b))))) (.nt (.nt (.orr (.a) (.an (.a) (.b)))))) (.nt (.it (.c) (.nt (.nt (.orr (.a) (.an (.a) (.b))))) (.nt (.nt (.orr (.a) (.an (.a) (.b)))))))) hl hp hv
      clear hl hp hv HK42
      obtain rfl : (1 : Int) = r43 := HK43.out.eq (.tail _ (.tail _ (.tail _ (.tail _ (.tail _ (.tail _ (.tail _ (.tail _ (.tail _ (.tail _ (.tail _ (.tail _ (.tail _ (.tail _ (.tail _ (.tail _ (.tail _ (.tail _ (.tail _ (.tail _ (.tail _ (.tail _ (.tail _ (.tail _ (.tail _ (.tail _ (.tail _ (.tail _ (.tail _ (.tail _ (.tail _ (.tail _ (.tail _ (.tail _ (.tail _ (.tail _ (.tail _ (.tail _ (.tail _ (.tail _ (.tail _ (.tail _ (.tail _ (.tail _ (.tail _ (.tail _ (.tail _ (.head _)))))))))))))))))))))))))))))))))))))))))))))))) (.head _) (by decide)
      go_wp2_with fail
      go_ret
      exact ⟨rfl, HB1.out.trans (HK43.out.lw.bel.mono HB1.out.size)⟩
end Go.Proofs.YtohfjpahdoodgaaDoor
