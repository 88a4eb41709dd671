/- DdCounts: the walk. -/
import Derived.Test.YtohfjpahdoodgaaGreatDoorMg37
import Derived.Test.YtohfjpahdoodgaaGreatDoorMg35
import Derived.Deep.CutBlock
import Derived.Test.YtohfjpahdoodgaaGreatDoorDG4
namespace Go.Proofs.YtohfjpahdoodgaaGreatDoor
open Go.RowKit
set_option linter.unusedSimpArgs false
set_option linter.unusedVariables false

set_option maxRecDepth 20000 in
set_option maxHeartbeats 6400000 in
theorem counts_law (nn qi qj : Int) (W : World) {s : Option Addr} {cap : Nat} {l : List Sp4} (hLa : La W s l) (hOk : ∀ s ∈ l, Sk s) (hmx : l.length ≤ maxLen) :
    Calls Tryz.prog 3 #[.int .i64 nn, .slice s l.length cap, .int .i64 qi, .int .i64 qj] W fun e w' => e = .returned (.bool true) ∧ Below W.heap.size W w' := by
  have HLA : Hid (La W s l) := hLa
  obtain ⟨N, hN⟩ : ∃ N, N = l.length := ⟨_, rfl⟩
  rw [← hN] at hmx ⊢
  have HN : Hid (N = l.length) := hN
  have HMX : Hid (N ≤ maxLen) := hmx
  have hK : Hid _ := known_any W
  clear hLa hOk hN hmx
  go_enter Tryz.func3, Tryz.ntmps3
  go_wp2_with fail
  refine Calls.mono hK.out ?_
  rintro e w1 ⟨rfl, hb1⟩
  have HB1 : Hid (Below W.heap.size W w1) := hb1
  clear hK hb1
  by_cases hlong : 40 < N
  · have hl1 : (40 : Int) < (N : Int) := by omega
    go_wp2_with fail
    go_ret
    exact ⟨rfl, HB1.out⟩
  · have hl1 : decide ((40 : Int) < (N : Int)) = false := by simp; omega
    obtain ⟨n, hn⟩ : ∃ n : Nat, (n : Int) = nn % 7 := ⟨(nn % 7).toNat, Int.toNat_of_nonneg (Int.emod_nonneg _ (by decide))⟩
    have hn6 : n ≤ 6 := by have := Int.emod_lt_of_pos nn (show (0 : Int) < 7 by decide); omega
    have HBG : Hid _ := begun_any nn 16384 w1 hn
    have HP : Hid (2 ^ n ≤ 64 ∧ 1 ≤ 2 ^ n) := ⟨Nat.le_trans (Nat.pow_le_pow_right (by decide) hn6) (by decide), Nat.one_le_two_pow⟩
    clear hn
    go_wp2_with fail
    refine Calls.mono HBG.out ?_
    rintro e w2 ⟨wb, F, lv, g, H, rfl, hf, pu, hl2⟩
    have HPU : Hid (Pu n (St0 n) (fun _ => 0) H) := pu
    have HL2 : Hid (H.length = 2) := hl2
    go_upto_region 6 with fail
    obtain ⟨w3, hw3⟩ : ∃ w3, w3 = w2.alloc (.cells #[.pointer (some ⟨wb, 0, none⟩)] 24) := ⟨_, rfl⟩
    have hbk : w3.heap[w2.heap.size]? = some (.cells #[.pointer (some ⟨wb, 0, none⟩)] 24 (0, 0)) := by rw [hw3]; exact heap_alloc_new _ _
    have hb3 : Below w2.heap.size w2 w3 := by rw [hw3]; exact (Below.refl _ _).alloc (Nat.le_refl _) _
    obtain ⟨bw, hbw⟩ : ∃ bw, bw = w2.heap.size := ⟨_, rfl⟩
    rw [← hw3, ← hbw]
    have HF : Hid (Hf ((wx w1).add bw (#[.pointer (some ⟨wb, 0, none⟩)], 24)) w3 (Fc w2 F) wb lv g n (mostOf 16384) (St0 n) (fun _ => 0) H) := (hf.cut.below hb3).add ⟨show (24 : TypeId) ≠ 36 by decide, show (24 : TypeId) ≠ 29 by decide⟩ (by rw [hbw]; exact hbk) (fun q => by have := q.2; omega)
    clear hf pu hl2 HBG hw3 hbk hb3 hbw
    go_upto_block 0 with fail
    go_cut [10] from 25 to 44 (fun _ xw => Hid (∃ F lv S pn H, Hf ((wx w1).add bw (#[.pointer (some ⟨wb, 0, none⟩)], 24)) xw F wb lv g n (mostOf 16384) S pn H ∧ Pu n S pn H ∧ cntF S.ns ≤ 2560 ∧ H.length ≤ 30))
    case first =>
      go_wp2_with fail
      go_loopw [10] (fun x wr => ∃ i : Nat, i ≤ N ∧ x = .int .i64 (i : Int) ∧ Hid (∃ F lv S pn H, Hf ((wx w1).add bw (#[.pointer (some ⟨wb, 0, none⟩)], 24)) wr F wb lv g n (mostOf 16384) S pn H ∧ Pu n S pn H ∧ cntF S.ns ≤ i * 2 ^ n ∧ H.length ≤ 30)) (fun x wr => N - (intOf x).toNat)
      case atStart => exact ⟨0, Nat.zero_le _, rfl, _, lv, _, _, H, HF.out, HPU.out, by rw [Nat.zero_mul]; exact Nat.le_refl 0, by rw [HL2.out]; decide⟩
      case round =>
        clear HF HPU HL2
        obtain ⟨i, hi, rfl, hH⟩ := hrel
        obtain ⟨F, lv, S, pn, H, hf, pu, hc, hl⟩ := hH.out
        obtain ⟨-, -, m3, -, hwl, -⟩ := hf.cells
        have h2 := pu.len
        obtain ⟨rl, cl, hlv, -⟩ := hf.hl.get (j := 0) (p := H[0]) (by rw [List.getElem?_eq_getElem])
        subst hlv
        have HF : Hid (Hf ((wx w1).add bw (#[.pointer (some ⟨wb, 0, none⟩)], 24)) wr F wb (.slice (some ⟨rl, 0, none⟩) H.length cl) g n (mostOf 16384) S pn H) := hf
        have HPU : Hid (Pu n S pn H) := pu
        have HC : Hid (cntF S.ns ≤ i * 2 ^ n) := hc
        have HC2 : Hid (cntF S.ns ≤ 2560) := by
          unfold Hid
          have h2 := HP.out.1
          have h3 : i * 2 ^ n ≤ 40 * 64 := Nat.mul_le_mul (by omega) h2
          omega
        obtain ⟨M, hM⟩ : ∃ M, M = H.length := ⟨_, rfl⟩
        rw [← hM] at m3 h2 hl
        have HM : Hid (M = H.length) := hM
        have cbw := cell_of (hf.xb bw _ (if_pos rfl)).2.1 0 rfl
        have lbw := blk_lt (hf.xb bw _ (if_pos rfl)).2.1
        clear hf pu hc hH hM
        by_cases hin : i < N
        · have hiI : (i : Int) < (N : Int) := by omega
          by_cases hfew : M < 30
          · have hM40 : (M : Int) < 30 := by omega
            obtain ⟨st, hst⟩ : ∃ st, l[i]? = some st := ⟨_, List.getElem?_eq_getElem (by rw [← HN.out]; exact hin)⟩
            have hbW : Below W.heap.size W wr := HB1.out.trans (HF.out.bel.mono HB1.out.size)
            obtain ⟨sg, so, rfl, hsg, hLn⟩ : ∃ g o, s = some ⟨g, o, none⟩ ∧ g < wr.heap.size ∧ Ln wr g o l := by
              rcases HLA.out.below hbW with e | h
              · rw [e] at hst; simp at hst
              · exact h
            have t0 := hLn i st hst 0 _ rfl
            have t1 := hLn i st hst 1 _ rfl
            have t2 := hLn i st hst 2 _ rfl
            have t3 := hLn i st hst 3 _ rfl
            rw [Nat.add_zero] at t0
            have HDO : Hid (∀ x, Below wr.heap.size wr x → Calls Tryz.prog 6 #[.pointer (some ⟨wb, 0, none⟩), .agg #[.int .i64 st.what, .int .i64 st.a, .int .i64 st.b, .int .i64 st.c]] x fun e w' => e = .returned (.tuple #[]) ∧ DoR ((wx w1).add bw (#[.pointer (some ⟨wb, 0, none⟩)], 24)) w' wb g n (mostOf 16384) S H) := fun x hx => does_any (HF.out.below hx) HPU.out (by omega) (by
              have h1 := HC2.out
              have h2 := HP.out.1
              have : mostOf 16384 = 16384 := by decide
              omega) (by rw [← HM.out]; omega) st.what st.a st.b st.c
            clear hLn hst hbW
            go_upto_region 9 with fail
            refine wp_named fun a0 ha0 => ?_
            have o1 := old_at ha0 (t := 1) rfl
            have o9 := old_at ha0 (t := 9) rfl
            have o10 := old_at ha0 (t := 10) rfl
            refine wp_region_lin (S := OS wr 5 (fun y _ => DoR ((wx w1).add bw (#[.pointer (some ⟨wb, 0, none⟩)], 24)) y wb g n (mostOf 16384) S H)) [] (fun _ => 0) (by kernel_rfl) (by kernel_rfl) (by rw [← ha0]; kernel_rfl) (OS.start) ?_
            refine' LinAll.cons _ ?_ ?_ ?_
            rotate_left 1
            · intro gg L a x hLi haft hS hK
              have t9 := (hK.old 9 (by kernel_rfl)).trans o9
              (try dsimp only at t9)
              have h5 : L 5 = false := off_b (fun e => waits (hK.cl 5 _ rfl e) 0 (by kernel_rfl)) hLi
              have hx := hS.a h5
              have cX : x.cell? ⟨bw, 0, none⟩ = some (.pointer (some ⟨wb, 0, none⟩)) := by rw [hx]; exact cbw
              clear hx h5
              refine go_in (wanted_all rfl) ?_
              intro K hk
              clear haft hK hLi
              go_simp
              exact hk.out gg x (fun _ _ => rfl) (hS.go (by decide))
            · intro i hi; exact Or.inl (fun _ _ _ => rfl)
            refine' LinAll.cons _ ?_ ?_ ?_
            rotate_left 1
            · intro gg L a x hLi haft hS hK
              have t1 := (hK.old 1 (by kernel_rfl)).trans o1
              (try dsimp only at t1)
              refine go_in (wanted_all rfl) ?_
              intro K hk
              clear haft hK hLi
              go_simp
              exact hk.out gg x (fun _ _ => rfl) (hS.go (by decide))
            · intro i hi; exact Or.inl (fun _ _ _ => rfl)
            refine' LinAll.cons _ ?_ ?_ ?_
            rotate_left 1
            · intro gg L a x hLi haft hS hK
              have t10 := (hK.old 10 (by kernel_rfl)).trans o10
              (try dsimp only at t10)
              refine go_in (wanted_all rfl) ?_
              intro K hk
              clear haft hK hLi
              go_simp
              exact hk.out gg x (fun _ _ => rfl) (hS.go (by decide))
            · intro i hi; exact Or.inl (fun _ _ _ => rfl)
            refine' LinAll.cons _ ?_ ?_ ?_
            rotate_left 1
            · intro gg L a x hLi haft hS hK
              have t40 := hK.new 1 1 _ 40 _ rfl rfl rfl (by kernel_rfl) (waits haft 1 (by kernel_rfl))
              have t41 := hK.new 2 0 _ 41 _ rfl rfl rfl (by kernel_rfl) (waits haft 2 (by kernel_rfl))
              (try dsimp only at t40 t41)
              refine go_in (wanted_all rfl) ?_
              intro K hk
              clear haft hK hLi
              go_simp
              exact hk.out gg x (fun _ _ => rfl) (hS.go (by decide))
            · intro i hi; exact Or.inl (fun _ _ _ => rfl)
            refine' LinAll.cons _ ?_ ?_ ?_
            rotate_left 1
            · intro gg L a x hLi haft hS hK
              have t42 := hK.new 3 0 _ 42 _ rfl rfl rfl (by kernel_rfl) (waits haft 3 (by kernel_rfl))
              (try dsimp only at t42)
              have h5 : L 5 = false := off_b (fun e => waits (hK.cl 5 _ rfl e) 4 (by kernel_rfl)) hLi
              have hx := hS.a h5
              have cX0 : x.cell? ⟨sg, so + i * 4, none⟩ = some (.int .i64 st.what) := by rw [hx]; exact t0
              have cX1 : x.cell? ⟨sg, so + i * 4 + 1, none⟩ = some (.int .i64 st.a) := by rw [hx]; exact t1
              have cX2 : x.cell? ⟨sg, so + i * 4 + 2, none⟩ = some (.int .i64 st.b) := by rw [hx]; exact t2
              have cX3 : x.cell? ⟨sg, so + i * 4 + 3, none⟩ = some (.int .i64 st.c) := by rw [hx]; exact t3
              clear hx h5
              refine go_in (wanted_all rfl) ?_
              intro K hk
              clear haft hK hLi
              go_simp
              exact hk.out gg x (fun _ _ => rfl) (hS.go (by decide))
            · intro i hi; exact Or.inl (fun _ _ _ => rfl)
            refine LinAll.cons (fun _ => .tuple #[]) ?_ ?_ ?_
            · intro gg L a x hLi haft hS hK
              have t39 := hK.new 0 4 _ 39 _ rfl rfl rfl (by kernel_rfl) (waits haft 0 (by kernel_rfl))
              have t43 := hK.new 4 0 _ 43 _ rfl rfl rfl (by kernel_rfl) (waits haft 4 (by kernel_rfl))
              (try dsimp only at t39 t43)
              have hx := hS.a hLi
              refine go_in (wanted_all rfl) ?_
              intro K hk
              clear haft hK hLi
              subst hx
              go_simp
              refine Calls.mono (HDO.out _ (Below.refl _ _).drew) ?_
              rintro e y ⟨rfl, hy⟩
              exact hk.out gg y (fun _ _ => rfl) ⟨(fun e => by rw [updB_eq] at e; cases e), fun _ => hy⟩
            · intro i hi; exact Or.inl (fun _ _ _ => rfl)
            refine LinAll.nil fun gy Y1 hS => ?_
            subst ha0
            simp only [Act.put, List.setIfInBounds_toArray, List.set_cons_zero, List.set_cons_succ]
            clear o1 o9 o10
            have hD := hS.b (by kernel_rfl)
            clear hS t0 t1 t2 t3 cbw
            obtain ⟨F', lv', S', pn', H', hf', pu', hg', hl'⟩ := hD
            have HEND : Hid (∃ F lv S pn H, Hf ((wx w1).add bw (#[.pointer (some ⟨wb, 0, none⟩)], 24)) Y1 F wb lv g n (mostOf 16384) S pn H ∧ Pu n S pn H ∧ cntF S.ns ≤ (i + 1) * 2 ^ n ∧ H.length ≤ 30) := ⟨F', lv', S', pn', H', hf', pu', by have := hg'.cnt; have := HC.out; rw [Nat.add_mul]; omega, by have := HM.out; omega⟩
            clear hf' pu' hg' hl'
            go_wp2_with fail
            exact ⟨⟨i + 1, by omega, by go_num, HEND.out⟩, by simp [intOf]; omega⟩
          · have hM40 : decide ((M : Int) < 30) = false := by simp; omega
            have HX : Hid (∃ F lv S pn H, Hf ((wx w1).add bw (#[.pointer (some ⟨wb, 0, none⟩)], 24)) wr F wb lv g n (mostOf 16384) S pn H ∧ Pu n S pn H ∧ cntF S.ns ≤ 2560 ∧ H.length ≤ 30) := ⟨F, _, S, pn, H, HF.out, HPU.out, HC2.out, by rw [← HM.out]; exact hl⟩
            go_wp2_with fail
            go_meet
            case rel => exact HX
        · have hiI : decide ((i : Int) < (N : Int)) = false := by simp; omega
          have HX : Hid (∃ F lv S pn H, Hf ((wx w1).add bw (#[.pointer (some ⟨wb, 0, none⟩)], 24)) wr F wb lv g n (mostOf 16384) S pn H ∧ Pu n S pn H ∧ cntF S.ns ≤ 2560 ∧ H.length ≤ 30) := ⟨F, _, S, pn, H, HF.out, HPU.out, HC2.out, by rw [← HM.out]; exact hl⟩
          go_wp2_with fail
          go_meet
          case rel => exact HX
    case rest =>
      clear HF HPU HL2
      obtain ⟨F, lv, S, pn, H, hf, pu, hc, hl⟩ := hcut.out
      clear hcut
      have cbw := cell_of (hf.xb bw _ (if_pos rfl)).2.1 0 rfl
      have lbw := blk_lt (hf.xb bw _ (if_pos rfl)).2.1
      have hl2 := pu.len
      obtain ⟨ka, hka⟩ : ∃ ka : Nat, (ka : Int) = qi % (H.length : Int) := ⟨(qi % (H.length : Int)).toNat, Int.toNat_of_nonneg (Int.emod_nonneg _ (by omega))⟩
      obtain ⟨⟨fa, va, ta⟩, hpa⟩ : ∃ p, H[ka]? = some p := ⟨_, List.getElem?_eq_getElem (by have := Int.emod_lt_of_pos qi (show (0 : Int) < (H.length : Int) by omega); omega)⟩
      have HAA : Hid (∀ wx, Below wc.heap.size wc wx → Calls Tryz.prog 7 #[.pointer (some ⟨wb, 0, none⟩), .int .i64 qi] wx fun e w' => e = .returned (.agg #[.int .i64 fa, va]) ∧ Below wx.heap.size wx w') := fun wx hb => at_any (hf.below hb) qi hka hpa
      have HFA : Hid (Fv n S fa (fun x => val n S.ns x fa)) := Fv.of (pu.al _ (List.mem_of_getElem? hpa)).1
      obtain ⟨kb, hkb⟩ : ∃ ka : Nat, (ka : Int) = qj % (H.length : Int) := ⟨(qj % (H.length : Int)).toNat, Int.toNat_of_nonneg (Int.emod_nonneg _ (by omega))⟩
      obtain ⟨⟨fb, vb, tb⟩, hpb⟩ : ∃ p, H[kb]? = some p := ⟨_, List.getElem?_eq_getElem (by have := Int.emod_lt_of_pos qj (show (0 : Int) < (H.length : Int) by omega); omega)⟩
      have HAB : Hid (∀ wx, Below wc.heap.size wc wx → Calls Tryz.prog 7 #[.pointer (some ⟨wb, 0, none⟩), .int .i64 qj] wx fun e w' => e = .returned (.agg #[.int .i64 fb, vb]) ∧ Below wx.heap.size wx w') := fun wx hb => at_any (hf.below hb) qj hkb hpb
      have HFB : Hid (Fv n S fb (fun x => val n S.ns x fb)) := Fv.of (pu.al _ (List.mem_of_getElem? hpb)).1
      have HC0 : Hid (CW ((wx w1).add bw (#[.pointer (some ⟨wb, 0, none⟩)], 24)) wc wb lv g n H 60 60 S) := ⟨⟨F, pn, hf, fun f => by have := pu.pn f; have := pu.few f; omega⟩, by omega⟩
      have HX : Hid (((wx w1).add bw (#[.pointer (some ⟨wb, 0, none⟩)], 24)).X bw = some (#[.pointer (some ⟨wb, 0, none⟩)], 24)) := if_pos rfl
      clear hf pu hc hl hl2 hka hkb hpa hpb
      go_upto_region 10 with fail
      refine wp_named fun a0 ha0 => ?_
      have o2 := old_at ha0 (t := 2) rfl
      have o3 := old_at ha0 (t := 3) rfl
      have o9 := old_at ha0 (t := 9) rfl
      refine wp_region_lin (S := BW wc) [] (fun _ => 0) (by kernel_rfl) (by kernel_rfl) (by rw [← ha0]; kernel_rfl) (BW.start) ?_
      refine' LinAll.cons _ ?_ ?_ ?_
      rotate_left 1
      · intro gg L a x hLi haft hS hK
        have t9 := (hK.old 9 (by kernel_rfl)).trans o9
        (try dsimp only at t9)
        have cX := bel_cell hS.bel lbw cbw
        refine go_in (wanted_all rfl) ?_
        intro K hk
        clear haft hK hLi
        go_simp
        exact hk.out gg x (fun _ _ => rfl) (hS.go)
      · intro i hi; exact Or.inl (fun _ _ _ => rfl)
      refine' LinAll.cons _ ?_ ?_ ?_
      rotate_left 1
      · intro gg L a x hLi haft hS hK
        have t2 := (hK.old 2 (by kernel_rfl)).trans o2
        (try dsimp only at t2)
        refine go_in (wanted_all rfl) ?_
        intro K hk
        clear haft hK hLi
        go_simp
        exact hk.out gg x (fun _ _ => rfl) (hS.go)
      · intro i hi; exact Or.inl (fun _ _ _ => rfl)
      refine LinAll.cons (fun _ => .agg #[.int .i64 fa, va]) ?_ ?_ ?_
      · intro gg L a x hLi haft hS hK
        have t45 := hK.new 0 1 _ 45 _ rfl rfl rfl (by kernel_rfl) (waits haft 0 (by kernel_rfl))
        have t46 := hK.new 1 0 _ 46 _ rfl rfl rfl (by kernel_rfl) (waits haft 1 (by kernel_rfl))
        (try dsimp only at t45 t46)
        refine go_in (wanted_all rfl) ?_
        intro K hk
        have hCX := HAA.out x hS.bel
        clear haft hK hLi
        go_simp
        refine Calls.mono hCX ?_
        rintro e y ⟨rfl, hy⟩
        exact hk.out gg y (fun _ _ => rfl) (hS.called hy)
      · intro i hi; exact Or.inl (fun _ _ _ => rfl)
      refine' LinAll.cons _ ?_ ?_ ?_
      rotate_left 1
      · intro gg L a x hLi haft hS hK
        have t47 := hK.new 2 0 _ 47 _ rfl rfl rfl (by kernel_rfl) (waits haft 2 (by kernel_rfl))
        (try dsimp only at t47)
        refine go_in (wanted_all rfl) ?_
        intro K hk
        clear haft hK hLi
        go_simp
        exact hk.out gg x (fun _ _ => rfl) (hS.go)
      · intro i hi; exact Or.inl (fun _ _ _ => rfl)
      refine' LinAll.cons _ ?_ ?_ ?_
      rotate_left 1
      · intro gg L a x hLi haft hS hK
        have t9 := (hK.old 9 (by kernel_rfl)).trans o9
        (try dsimp only at t9)
        have cX := bel_cell hS.bel lbw cbw
        refine go_in (wanted_all rfl) ?_
        intro K hk
        clear haft hK hLi
        go_simp
        exact hk.out gg x (fun _ _ => rfl) (hS.go)
      · intro i hi; exact Or.inl (fun _ _ _ => rfl)
      refine' LinAll.cons _ ?_ ?_ ?_
      rotate_left 1
      · intro gg L a x hLi haft hS hK
        have t3 := (hK.old 3 (by kernel_rfl)).trans o3
        (try dsimp only at t3)
        refine go_in (wanted_all rfl) ?_
        intro K hk
        clear haft hK hLi
        go_simp
        exact hk.out gg x (fun _ _ => rfl) (hS.go)
      · intro i hi; exact Or.inl (fun _ _ _ => rfl)
      refine LinAll.cons (fun _ => .agg #[.int .i64 fb, vb]) ?_ ?_ ?_
      · intro gg L a x hLi haft hS hK
        have t49 := hK.new 4 1 _ 49 _ rfl rfl rfl (by kernel_rfl) (waits haft 4 (by kernel_rfl))
        have t50 := hK.new 5 0 _ 50 _ rfl rfl rfl (by kernel_rfl) (waits haft 5 (by kernel_rfl))
        (try dsimp only at t49 t50)
        refine go_in (wanted_all rfl) ?_
        intro K hk
        have hCX := HAB.out x hS.bel
        clear haft hK hLi
        go_simp
        refine Calls.mono hCX ?_
        rintro e y ⟨rfl, hy⟩
        exact hk.out gg y (fun _ _ => rfl) (hS.called hy)
      · intro i hi; exact Or.inl (fun _ _ _ => rfl)
      refine' LinAll.cons _ ?_ ?_ ?_
      rotate_left 1
      · intro gg L a x hLi haft hS hK
        have t51 := hK.new 6 0 _ 51 _ rfl rfl rfl (by kernel_rfl) (waits haft 6 (by kernel_rfl))
        (try dsimp only at t51)
        refine go_in (wanted_all rfl) ?_
        intro K hk
        clear haft hK hLi
        go_simp
        exact hk.out gg x (fun _ _ => rfl) (hS.go)
      · intro i hi; exact Or.inl (fun _ _ _ => rfl)
      refine' LinAll.cons _ ?_ ?_ ?_
      rotate_left 1
      · intro gg L a x hLi haft hS hK
        have t48 := hK.new 3 4 _ 48 _ rfl rfl rfl (by kernel_rfl) (waits haft 3 (by kernel_rfl))
        (try dsimp only at t48)
        refine go_in (wanted_all rfl) ?_
        intro K hk
        clear haft hK hLi
        go_simp
        exact hk.out gg x (fun _ _ => rfl) (hS.go)
      · intro i hi; exact Or.inl (fun _ _ _ => rfl)
      refine' LinAll.cons _ ?_ ?_ ?_
      rotate_left 1
      · intro gg L a x hLi haft hS hK
        have t52 := hK.new 7 1 _ 52 _ rfl rfl rfl (by kernel_rfl) (waits haft 7 (by kernel_rfl))
        (try dsimp only at t52)
        refine go_in (wanted_all rfl) ?_
        intro K hk
        clear haft hK hLi
        go_simp
        exact hk.out gg x (fun _ _ => rfl) (hS.go)
      · intro i hi; exact Or.inl (fun _ _ _ => rfl)
      refine LinAll.nil fun gg Y1 hS => ?_
      subst ha0
      simp only [Act.put, List.setIfInBounds_toArray, List.set_cons_zero, List.set_cons_succ]
      clear o2 o3 o9
      have HC1 : Hid _ := HC0.out.below hS.bel
      clear hS cbw lbw HAA HAB HC0
      obtain ⟨m0, m1, lw⟩ := HC1.out.cells
      obtain ⟨cb, lb⟩ := HC1.out.wbk HX.out
      have HOX : Hid _ := cand_any HC1.out (by decide) hn6 HFA.out HFB.out
      go_wp2_with fail
      refine Calls.mono HOX.out ?_
      rintro e wx ⟨rx, Sx, rfl, hc, hp, hv⟩
      have HCX : Hid _ := hc
      have HFA' : Hid _ := HFA.out.grow HC1.out.good hp
      have HFB' : Hid _ := HFB.out.grow HC1.out.good hp
      have HFX : Hid (Fv n Sx rx (fun z => val n S.ns z fa && val n S.ns z fb)) := hv
      have HGX : Hid _ := cget_any HCX.out (by decide) hv.al
      clear hc hp hv m0 m1 lw cb lb HOX HFA HFB HC1
      have HFA : Hid _ := HFA'.out
      clear HFA'
      have HFB : Hid _ := HFB'.out
      clear HFB'
      obtain ⟨m0, m1, lw⟩ := HCX.out.cells
      obtain ⟨cb, lb⟩ := HCX.out.wbk HX.out
      go_wp2_with fail
      refine Calls.mono HGX.out ?_
      rintro e vx ⟨rfl, hc⟩
      have HDX : Hid _ := hc
      clear hc m0 m1 lw cb lb HGX HCX
      obtain ⟨m0, m1, lw⟩ := HDX.out.cells
      obtain ⟨cb, lb⟩ := HDX.out.wbk HX.out
      have HOY : Hid _ := cor_any HDX.out (by decide) hn6 HFA.out HFB.out
      go_wp2_with fail
      refine Calls.mono HOY.out ?_
      rintro e wy ⟨ry, Sy, rfl, hc, hp, hv⟩
      have HCY : Hid _ := hc
      have HFA' : Hid _ := HFA.out.grow HDX.out.good hp
      have HFB' : Hid _ := HFB.out.grow HDX.out.good hp
      have HFX' : Hid _ := HFX.out.grow HDX.out.good hp
      have HFY : Hid (Fv n Sy ry (fun z => val n S.ns z fa || val n S.ns z fb)) := hv
      have HGY : Hid _ := cget_any HCY.out (by decide) hv.al
      clear hc hp hv m0 m1 lw cb lb HOY HFA HFB HFX HDX
      have HFA : Hid _ := HFA'.out
      clear HFA'
      have HFB : Hid _ := HFB'.out
      clear HFB'
      have HFX : Hid _ := HFX'.out
      clear HFX'
      obtain ⟨m0, m1, lw⟩ := HCY.out.cells
      obtain ⟨cb, lb⟩ := HCY.out.wbk HX.out
      go_wp2_with fail
      refine Calls.mono HGY.out ?_
      rintro e vy ⟨rfl, hc⟩
      have HDY : Hid _ := hc
      clear hc m0 m1 lw cb lb HGY HCY
      obtain ⟨m0, m1, lw⟩ := HDY.out.cells
      obtain ⟨cb, lb⟩ := HDY.out.wbk HX.out
      have HOZ : Hid _ := cnot_any HDY.out (by decide) hn6 HFA.out
      go_wp2_with fail
      refine Calls.mono HOZ.out ?_
      rintro e wz ⟨rz, Sz, rfl, hc, hp, hv⟩
      have HCZ : Hid _ := hc
      have HFA' : Hid _ := HFA.out.grow HDY.out.good hp
      have HFB' : Hid _ := HFB.out.grow HDY.out.good hp
      have HFX' : Hid _ := HFX.out.grow HDY.out.good hp
      have HFY' : Hid _ := HFY.out.grow HDY.out.good hp
      have HFZ : Hid (Fv n Sz rz (fun z => !val n S.ns z fa)) := hv
      have HGZ : Hid _ := cget_any HCZ.out (by decide) hv.al
      clear hc hp hv m0 m1 lw cb lb HOZ HFA HFB HFX HFY HDY
      have HFA : Hid _ := HFA'.out
      clear HFA'
      have HFB : Hid _ := HFB'.out
      clear HFB'
      have HFX : Hid _ := HFX'.out
      clear HFX'
      have HFY : Hid _ := HFY'.out
      clear HFY'
      obtain ⟨m0, m1, lw⟩ := HCZ.out.cells
      obtain ⟨cb, lb⟩ := HCZ.out.wbk HX.out
      go_wp2_with fail
      refine Calls.mono HGZ.out ?_
      rintro e vz ⟨rfl, hc⟩
      have HDZ : Hid _ := hc
      clear hc m0 m1 lw cb lb HGZ HCZ
      obtain ⟨m0, m1, lw⟩ := HDZ.out.cells
      obtain ⟨cb, lb⟩ := HDZ.out.wbk HX.out
      have HCL : Hid (∀ f x, Below vz.heap.size vz x → alive Sz.ns f → Calls Tryz.prog 12 #[.int .i64 f, .pointer (some ⟨bw, 0, none⟩)] x fun e w' => e = .returned (.int .u64 (cv n Sz.ns f : Nat)) ∧ Below x.heap.size x w') := fun f x hb ha => cnt_cl (HDZ.out.below hb) HX.out hn6 ha
      have gd := HDZ.out.good
      have hp64 := HP.out.1
      obtain ⟨cx, hcx⟩ : ∃ c, c = cv n Sz.ns rx := ⟨_, rfl⟩
      obtain ⟨cy, hcy⟩ : ∃ c, c = cv n Sz.ns ry := ⟨_, rfl⟩
      obtain ⟨cz, hcz⟩ : ∃ c, c = cv n Sz.ns rz := ⟨_, rfl⟩
      obtain ⟨ca, hca⟩ : ∃ c, c = cv n Sz.ns fa := ⟨_, rfl⟩
      obtain ⟨cb2, hcb⟩ : ∃ c, c = cv n Sz.ns fb := ⟨_, rfl⟩
      have bx : cx ≤ 64 := by rw [hcx]; have := cv_bd gd HFX.out.al; omega
      have by' : cy ≤ 64 := by rw [hcy]; have := cv_bd gd HFY.out.al; omega
      have bz : cz ≤ 64 := by rw [hcz]; have := cv_bd gd HFZ.out.al; omega
      have ba : ca ≤ 64 := by rw [hca]; have := cv_bd gd HFA.out.al; omega
      have bb : cb2 ≤ 64 := by rw [hcb]; have := cv_bd gd HFB.out.al; omega
      have es : cx + cy = ca + cb2 := by
        rw [hcx, hcy, hca, hcb, HFX.out.cv gd, HFY.out.cv gd, HFA.out.cv gd, HFB.out.cv gd]
        exact rt_and _ _ n 0 _
      have en : ca + cz = 2 ^ n := by
        rw [hca, hcz, HFA.out.cv gd, HFZ.out.cv gd]
        exact rt_not _ n 0 _
      have HCX := fun x hb => HCL.out rx x hb HFX.out.al
      have HCY := fun x hb => HCL.out ry x hb HFY.out.al
      have HCZ := fun x hb => HCL.out rz x hb HFZ.out.al
      have HCA := fun x hb => HCL.out fa x hb HFA.out.al
      have HCB := fun x hb => HCL.out fb x hb HFB.out.al
      have HC1C := fun x hb => HCL.out 1 x hb gd.a1
      have HC0C := fun x hb => HCL.out 0 x hb gd.a0
      rw [← hcx] at HCX
      rw [← hcy] at HCY
      rw [← hcz] at HCZ
      rw [← hca] at HCA
      rw [← hcb] at HCB
      rw [cv_le (by decide), if_pos rfl] at HC1C
      rw [cv_le (by decide), if_neg (by decide)] at HC0C
      obtain ⟨P2, hP2⟩ : ∃ P2, P2 = 2 ^ n := ⟨_, rfl⟩
      have hpI : ((2 : Int) ^ n) = (P2 : Int) := by rw [hP2]; simp
      rw [← hP2] at en HC1C hp64
      obtain ⟨s1, hs1⟩ : ∃ s1, s1 = cx + cy := ⟨_, rfl⟩
      have wr1 : IntKind.u64.wrap ((cx : Int) + (cy : Int)) = (s1 : Int) := by rw [hs1]; simp [IntKind.wrap, IntKind.signed, IntKind.bits]; omega
      have wr2 : IntKind.u64.wrap ((ca : Int) + (cb2 : Int)) = (s1 : Int) := by rw [hs1]; simp [IntKind.wrap, IntKind.signed, IntKind.bits]; omega
      have wr3 : IntKind.u64.wrap ((ca : Int) + (cz : Int)) = (P2 : Int) := by simp [IntKind.wrap, IntKind.signed, IntKind.bits]; omega
      have wr4 : IntKind.u64.wrap ((2 : Int) ^ n) = (P2 : Int) := by rw [hpI]; simp [IntKind.wrap, IntKind.signed, IntKind.bits]; omega
      have wr5 : IntKind.u64.wrap (1 * (2 : Int) ^ n) = (P2 : Int) := by rw [Int.one_mul]; exact wr4
      have HCX : Hid _ := HCX
      have HCY : Hid _ := HCY
      have HCZ : Hid _ := HCZ
      have HCA : Hid _ := HCA
      have HCB : Hid _ := HCB
      have HC1C : Hid _ := HC1C
      have HC0C : Hid _ := HC0C
      have HBE : Hid (Below W.heap.size W vz) := HB1.out.trans (HDZ.out.bel.mono HB1.out.size)
      clear hcx hcy hcz hca hcb bx by' bz ba bb es en hP2 hpI hs1 gd hp64 HCL m0 HFA HFB HFX HFY HFZ HDZ
      go_upto_region 18 with fail
      refine wp_named fun a0 ha0 => ?_
      have o9 := old_at ha0 (t := 9) rfl
      have o11 := old_at ha0 (t := 11) rfl
      have o12 := old_at ha0 (t := 12) rfl
      have o13 := old_at ha0 (t := 13) rfl
      have o15 := old_at ha0 (t := 15) rfl
      have o16 := old_at ha0 (t := 16) rfl
      have o17 := old_at ha0 (t := 17) rfl
      refine wp_region_lin (S := BW vz) [] (fun _ => 0) (by kernel_rfl) (by kernel_rfl) (by rw [← ha0]; kernel_rfl) (BW.start) ?_
      refine' LinAll.cons _ ?_ ?_ ?_
      rotate_left 1
      · intro gg L a x hLi haft hS hK
        have t17 := (hK.old 17 (by kernel_rfl)).trans o17
        (try dsimp only at t17)
        refine go_in (wanted_all rfl) ?_
        intro K hk
        clear haft hK hLi
        go_simp
        exact hk.out gg x (fun _ _ => rfl) (hS.go)
      · intro i hi; exact Or.inl (fun _ _ _ => rfl)
      refine' LinAll.cons _ ?_ ?_ ?_
      rotate_left 1
      · intro gg L a x hLi haft hS hK
        have t13 := (hK.old 13 (by kernel_rfl)).trans o13
        (try dsimp only at t13)
        refine go_in (wanted_all rfl) ?_
        intro K hk
        clear haft hK hLi
        go_simp
        exact hk.out gg x (fun _ _ => rfl) (hS.go)
      · intro i hi; exact Or.inl (fun _ _ _ => rfl)
      refine LinAll.cons (fun _ => .int .u64 (cx : Int)) ?_ ?_ ?_
      · intro gg L a x hLi haft hS hK
        have t95 := hK.new 0 1 _ 95 _ rfl rfl rfl (by kernel_rfl) (waits haft 0 (by kernel_rfl))
        have t96 := hK.new 1 0 _ 96 _ rfl rfl rfl (by kernel_rfl) (waits haft 1 (by kernel_rfl))
        (try dsimp only at t95 t96)
        refine go_in (wanted_all rfl) ?_
        intro K hk
        have hCX := HCX.out x hS.bel
        clear haft hK hLi
        go_simp
        refine Calls.mono hCX ?_
        rintro e y ⟨rfl, hy⟩
        exact hk.out gg y (fun _ _ => rfl) (hS.called hy)
      · intro i hi; exact Or.inl (fun _ _ _ => rfl)
      refine' LinAll.cons _ ?_ ?_ ?_
      rotate_left 1
      · intro gg L a x hLi haft hS hK
        have t17 := (hK.old 17 (by kernel_rfl)).trans o17
        (try dsimp only at t17)
        refine go_in (wanted_all rfl) ?_
        intro K hk
        clear haft hK hLi
        go_simp
        exact hk.out gg x (fun _ _ => rfl) (hS.go)
      · intro i hi; exact Or.inl (fun _ _ _ => rfl)
      refine' LinAll.cons _ ?_ ?_ ?_
      rotate_left 1
      · intro gg L a x hLi haft hS hK
        have t15 := (hK.old 15 (by kernel_rfl)).trans o15
        (try dsimp only at t15)
        refine go_in (wanted_all rfl) ?_
        intro K hk
        clear haft hK hLi
        go_simp
        exact hk.out gg x (fun _ _ => rfl) (hS.go)
      · intro i hi; exact Or.inl (fun _ _ _ => rfl)
      refine LinAll.cons (fun _ => .int .u64 (cy : Int)) ?_ ?_ ?_
      · intro gg L a x hLi haft hS hK
        have t98 := hK.new 3 1 _ 98 _ rfl rfl rfl (by kernel_rfl) (waits haft 3 (by kernel_rfl))
        have t99 := hK.new 4 0 _ 99 _ rfl rfl rfl (by kernel_rfl) (waits haft 4 (by kernel_rfl))
        (try dsimp only at t98 t99)
        refine go_in (wanted_all rfl) ?_
        intro K hk
        have hCX := HCY.out x hS.bel
        clear haft hK hLi
        go_simp
        refine Calls.mono hCX ?_
        rintro e y ⟨rfl, hy⟩
        exact hk.out gg y (fun _ _ => rfl) (hS.called hy)
      · intro i hi; exact Or.inl (fun _ _ _ => rfl)
      refine LinAll.cons (fun _ => .int .u64 (s1 : Int)) ?_ ?_ ?_
      · intro gg L a x hLi haft hS hK
        have t97 := hK.new 2 3 _ 97 _ rfl rfl rfl (by kernel_rfl) (waits haft 2 (by kernel_rfl))
        have t100 := hK.new 5 0 _ 100 _ rfl rfl rfl (by kernel_rfl) (waits haft 5 (by kernel_rfl))
        (try dsimp only at t97 t100)
        refine go_in (wanted_all rfl) ?_
        intro K hk
        clear haft hK hLi
        go_simp
        exact hk.out gg x (fun _ _ => rfl) hS.go
      · intro i hi; exact Or.inl (fun _ _ _ => rfl)
      refine' LinAll.cons _ ?_ ?_ ?_
      rotate_left 1
      · intro gg L a x hLi haft hS hK
        have t17 := (hK.old 17 (by kernel_rfl)).trans o17
        (try dsimp only at t17)
        refine go_in (wanted_all rfl) ?_
        intro K hk
        clear haft hK hLi
        go_simp
        exact hk.out gg x (fun _ _ => rfl) (hS.go)
      · intro i hi; exact Or.inl (fun _ _ _ => rfl)
      refine' LinAll.cons _ ?_ ?_ ?_
      rotate_left 1
      · intro gg L a x hLi haft hS hK
        have t11 := (hK.old 11 (by kernel_rfl)).trans o11
        (try dsimp only at t11)
        refine go_in (wanted_all rfl) ?_
        intro K hk
        clear haft hK hLi
        go_simp
        exact hk.out gg x (fun _ _ => rfl) (hS.go)
      · intro i hi; exact Or.inl (fun _ _ _ => rfl)
      refine LinAll.cons (fun _ => .int .u64 (ca : Int)) ?_ ?_ ?_
      · intro gg L a x hLi haft hS hK
        have t102 := hK.new 7 1 _ 102 _ rfl rfl rfl (by kernel_rfl) (waits haft 7 (by kernel_rfl))
        have t103 := hK.new 8 0 _ 103 _ rfl rfl rfl (by kernel_rfl) (waits haft 8 (by kernel_rfl))
        (try dsimp only at t102 t103)
        refine go_in (wanted_all rfl) ?_
        intro K hk
        have hCX := HCA.out x hS.bel
        clear haft hK hLi
        go_simp
        refine Calls.mono hCX ?_
        rintro e y ⟨rfl, hy⟩
        exact hk.out gg y (fun _ _ => rfl) (hS.called hy)
      · intro i hi; exact Or.inl (fun _ _ _ => rfl)
      refine' LinAll.cons _ ?_ ?_ ?_
      rotate_left 1
      · intro gg L a x hLi haft hS hK
        have t17 := (hK.old 17 (by kernel_rfl)).trans o17
        (try dsimp only at t17)
        refine go_in (wanted_all rfl) ?_
        intro K hk
        clear haft hK hLi
        go_simp
        exact hk.out gg x (fun _ _ => rfl) (hS.go)
      · intro i hi; exact Or.inl (fun _ _ _ => rfl)
      refine' LinAll.cons _ ?_ ?_ ?_
      rotate_left 1
      · intro gg L a x hLi haft hS hK
        have t12 := (hK.old 12 (by kernel_rfl)).trans o12
        (try dsimp only at t12)
        refine go_in (wanted_all rfl) ?_
        intro K hk
        clear haft hK hLi
        go_simp
        exact hk.out gg x (fun _ _ => rfl) (hS.go)
      · intro i hi; exact Or.inl (fun _ _ _ => rfl)
      refine LinAll.cons (fun _ => .int .u64 (cb2 : Int)) ?_ ?_ ?_
      · intro gg L a x hLi haft hS hK
        have t105 := hK.new 10 1 _ 105 _ rfl rfl rfl (by kernel_rfl) (waits haft 10 (by kernel_rfl))
        have t106 := hK.new 11 0 _ 106 _ rfl rfl rfl (by kernel_rfl) (waits haft 11 (by kernel_rfl))
        (try dsimp only at t105 t106)
        refine go_in (wanted_all rfl) ?_
        intro K hk
        have hCX := HCB.out x hS.bel
        clear haft hK hLi
        go_simp
        refine Calls.mono hCX ?_
        rintro e y ⟨rfl, hy⟩
        exact hk.out gg y (fun _ _ => rfl) (hS.called hy)
      · intro i hi; exact Or.inl (fun _ _ _ => rfl)
      refine LinAll.cons (fun _ => .int .u64 (s1 : Int)) ?_ ?_ ?_
      · intro gg L a x hLi haft hS hK
        have t104 := hK.new 9 3 _ 104 _ rfl rfl rfl (by kernel_rfl) (waits haft 9 (by kernel_rfl))
        have t107 := hK.new 12 0 _ 107 _ rfl rfl rfl (by kernel_rfl) (waits haft 12 (by kernel_rfl))
        (try dsimp only at t104 t107)
        refine go_in (wanted_all rfl) ?_
        intro K hk
        clear haft hK hLi
        go_simp
        exact hk.out gg x (fun _ _ => rfl) hS.go
      · intro i hi; exact Or.inl (fun _ _ _ => rfl)
      refine LinAll.cons (fun _ => .bool true) ?_ ?_ ?_
      · intro gg L a x hLi haft hS hK
        have t101 := hK.new 6 7 _ 101 _ rfl rfl rfl (by kernel_rfl) (waits haft 6 (by kernel_rfl))
        have t108 := hK.new 13 0 _ 108 _ rfl rfl rfl (by kernel_rfl) (waits haft 13 (by kernel_rfl))
        (try dsimp only at t101 t108)
        refine go_in (wanted_all rfl) ?_
        intro K hk
        clear haft hK hLi
        go_simp
        exact hk.out gg x (fun _ _ => rfl) hS.go
      · intro i hi; exact Or.inl (fun _ _ _ => rfl)
      refine' LinAll.cons _ ?_ ?_ ?_
      rotate_left 1
      · intro gg L a x hLi haft hS hK
        have t109 := hK.new 14 0 _ 109 _ rfl rfl rfl (by kernel_rfl) (waits haft 14 (by kernel_rfl))
        (try dsimp only at t109)
        refine go_in (wanted_all rfl) ?_
        intro K hk
        clear haft hK hLi
        go_simp
        exact hk.out gg x (fun _ _ => rfl) (hS.go)
      · intro i hi; exact Or.inl (fun _ _ _ => rfl)
      refine' LinAll.cons _ ?_ ?_ ?_
      rotate_left 1
      · intro gg L a x hLi haft hS hK
        have t17 := (hK.old 17 (by kernel_rfl)).trans o17
        have tg := hK.new 15 0 _ 110 _ rfl rfl rfl (by kernel_rfl) (waits haft 15 (by kernel_rfl))
        (try dsimp only at t17)
        refine go_in (wanted_at rfl rfl rfl tg rfl) ?_
        intro K hk
        clear haft hK tg hLi
        go_simp
        exact hk.out gg x (fun _ _ => rfl) (hS.go)
      · intro i hi; exact Or.inl (fun _ _ _ => rfl)
      refine' LinAll.cons _ ?_ ?_ ?_
      rotate_left 1
      · intro gg L a x hLi haft hS hK
        have t11 := (hK.old 11 (by kernel_rfl)).trans o11
        have tg := hK.new 15 1 _ 110 _ rfl rfl rfl (by kernel_rfl) (waits haft 15 (by kernel_rfl))
        (try dsimp only at t11)
        refine go_in (wanted_at rfl rfl rfl tg rfl) ?_
        intro K hk
        clear haft hK tg hLi
        go_simp
        exact hk.out gg x (fun _ _ => rfl) (hS.go)
      · intro i hi; exact Or.inl (fun _ _ _ => rfl)
      refine LinAll.cons (fun _ => .int .u64 (ca : Int)) ?_ ?_ ?_
      · intro gg L a x hLi haft hS hK
        have t111 := hK.new 16 1 _ 111 _ rfl rfl rfl (by kernel_rfl) (waits haft 16 (by kernel_rfl))
        have t112 := hK.new 17 0 _ 112 _ rfl rfl rfl (by kernel_rfl) (waits haft 17 (by kernel_rfl))
        have tg := hK.new 15 2 _ 110 _ rfl rfl rfl (by kernel_rfl) (waits haft 15 (by kernel_rfl))
        (try dsimp only at t111 t112)
        refine go_in (wanted_at rfl rfl rfl tg rfl) ?_
        intro K hk
        have hCX := HCA.out x hS.bel
        clear haft hK tg hLi
        go_simp
        refine Calls.mono hCX ?_
        rintro e y ⟨rfl, hy⟩
        exact hk.out gg y (fun _ _ => rfl) (hS.called hy)
      · intro i hi; exact Or.inl (fun _ _ _ => rfl)
      refine' LinAll.cons _ ?_ ?_ ?_
      rotate_left 1
      · intro gg L a x hLi haft hS hK
        have t17 := (hK.old 17 (by kernel_rfl)).trans o17
        have tg := hK.new 15 3 _ 110 _ rfl rfl rfl (by kernel_rfl) (waits haft 15 (by kernel_rfl))
        (try dsimp only at t17)
        refine go_in (wanted_at rfl rfl rfl tg rfl) ?_
        intro K hk
        clear haft hK tg hLi
        go_simp
        exact hk.out gg x (fun _ _ => rfl) (hS.go)
      · intro i hi; exact Or.inl (fun _ _ _ => rfl)
      refine' LinAll.cons _ ?_ ?_ ?_
      rotate_left 1
      · intro gg L a x hLi haft hS hK
        have t16 := (hK.old 16 (by kernel_rfl)).trans o16
        have tg := hK.new 15 4 _ 110 _ rfl rfl rfl (by kernel_rfl) (waits haft 15 (by kernel_rfl))
        (try dsimp only at t16)
        refine go_in (wanted_at rfl rfl rfl tg rfl) ?_
        intro K hk
        clear haft hK tg hLi
        go_simp
        exact hk.out gg x (fun _ _ => rfl) (hS.go)
      · intro i hi; exact Or.inl (fun _ _ _ => rfl)
      refine LinAll.cons (fun _ => .int .u64 (cz : Int)) ?_ ?_ ?_
      · intro gg L a x hLi haft hS hK
        have t114 := hK.new 19 1 _ 114 _ rfl rfl rfl (by kernel_rfl) (waits haft 19 (by kernel_rfl))
        have t115 := hK.new 20 0 _ 115 _ rfl rfl rfl (by kernel_rfl) (waits haft 20 (by kernel_rfl))
        have tg := hK.new 15 5 _ 110 _ rfl rfl rfl (by kernel_rfl) (waits haft 15 (by kernel_rfl))
        (try dsimp only at t114 t115)
        refine go_in (wanted_at rfl rfl rfl tg rfl) ?_
        intro K hk
        have hCX := HCZ.out x hS.bel
        clear haft hK tg hLi
        go_simp
        refine Calls.mono hCX ?_
        rintro e y ⟨rfl, hy⟩
        exact hk.out gg y (fun _ _ => rfl) (hS.called hy)
      · intro i hi; exact Or.inl (fun _ _ _ => rfl)
      refine LinAll.cons (fun _ => .int .u64 (P2 : Int)) ?_ ?_ ?_
      · intro gg L a x hLi haft hS hK
        have t113 := hK.new 18 3 _ 113 _ rfl rfl rfl (by kernel_rfl) (waits haft 18 (by kernel_rfl))
        have t116 := hK.new 21 0 _ 116 _ rfl rfl rfl (by kernel_rfl) (waits haft 21 (by kernel_rfl))
        have tg := hK.new 15 6 _ 110 _ rfl rfl rfl (by kernel_rfl) (waits haft 15 (by kernel_rfl))
        (try dsimp only at t113 t116)
        refine go_in (wanted_at rfl rfl rfl tg rfl) ?_
        intro K hk
        clear haft hK tg hLi
        go_simp
        exact hk.out gg x (fun _ _ => rfl) hS.go
      · intro i hi; exact Or.inl (fun _ _ _ => rfl)
      refine' LinAll.cons _ ?_ ?_ ?_
      rotate_left 1
      · intro gg L a x hLi haft hS hK
        have t9 := (hK.old 9 (by kernel_rfl)).trans o9
        have tg := hK.new 15 7 _ 110 _ rfl rfl rfl (by kernel_rfl) (waits haft 15 (by kernel_rfl))
        (try dsimp only at t9)
        have cX := bel_cell hS.bel lb cb
        refine go_in (wanted_at rfl rfl rfl tg rfl) ?_
        intro K hk
        clear haft hK tg hLi
        go_simp
        exact hk.out gg x (fun _ _ => rfl) (hS.go)
      · intro i hi; exact Or.inl (fun _ _ _ => rfl)
      refine' LinAll.cons _ ?_ ?_ ?_
      rotate_left 1
      · intro gg L a x hLi haft hS hK
        have t118 := hK.new 23 0 _ 118 _ rfl rfl rfl (by kernel_rfl) (waits haft 23 (by kernel_rfl))
        have tg := hK.new 15 8 _ 110 _ rfl rfl rfl (by kernel_rfl) (waits haft 15 (by kernel_rfl))
        (try dsimp only at t118)
        refine go_in (wanted_at rfl rfl rfl tg rfl) ?_
        intro K hk
        clear haft hK tg hLi
        go_simp
        exact hk.out gg x (fun _ _ => rfl) (hS.go)
      · intro i hi; exact Or.inl (fun _ _ _ => rfl)
      refine' LinAll.cons _ ?_ ?_ ?_
      rotate_left 1
      · intro gg L a x hLi haft hS hK
        have t119 := hK.new 24 0 _ 119 _ rfl rfl rfl (by kernel_rfl) (waits haft 24 (by kernel_rfl))
        have tg := hK.new 15 9 _ 110 _ rfl rfl rfl (by kernel_rfl) (waits haft 15 (by kernel_rfl))
        (try dsimp only at t119)
        refine go_in (wanted_at rfl rfl rfl tg rfl) ?_
        intro K hk
        clear haft hK tg hLi
        go_simp
        exact hk.out gg x (fun _ _ => rfl) (hS.go)
      · intro i hi; exact Or.inl (fun _ _ _ => rfl)
      refine' LinAll.cons _ ?_ ?_ ?_
      rotate_left 1
      · intro gg L a x hLi haft hS hK
        have t120 := hK.new 25 0 _ 120 _ rfl rfl rfl (by kernel_rfl) (waits haft 25 (by kernel_rfl))
        have tg := hK.new 15 10 _ 110 _ rfl rfl rfl (by kernel_rfl) (waits haft 15 (by kernel_rfl))
        (try dsimp only at t120)
        have cX := bel_cell hS.bel lw m1
        refine go_in (wanted_at rfl rfl rfl tg rfl) ?_
        intro K hk
        clear haft hK tg hLi
        go_simp
        exact hk.out gg x (fun _ _ => rfl) (hS.go)
      · intro i hi; exact Or.inl (fun _ _ _ => rfl)
      refine LinAll.cons (fun _ => .int .u64 (P2 : Int)) ?_ ?_ ?_
      · intro gg L a x hLi haft hS hK
        have t121 := hK.new 26 0 _ 121 _ rfl rfl rfl (by kernel_rfl) (waits haft 26 (by kernel_rfl))
        have tg := hK.new 15 11 _ 110 _ rfl rfl rfl (by kernel_rfl) (waits haft 15 (by kernel_rfl))
        (try dsimp only at t121)
        refine go_in (wanted_at rfl rfl rfl tg rfl) ?_
        intro K hk
        clear haft hK tg hLi
        go_simp
        exact hk.out gg x (fun _ _ => rfl) hS.go
      · intro i hi; exact Or.inl (fun _ _ _ => rfl)
      refine LinAll.cons (fun _ => .bool true) ?_ ?_ ?_
      · intro gg L a x hLi haft hS hK
        have t117 := hK.new 22 5 _ 117 _ rfl rfl rfl (by kernel_rfl) (waits haft 22 (by kernel_rfl))
        have t122 := hK.new 27 0 _ 122 _ rfl rfl rfl (by kernel_rfl) (waits haft 27 (by kernel_rfl))
        have tg := hK.new 15 12 _ 110 _ rfl rfl rfl (by kernel_rfl) (waits haft 15 (by kernel_rfl))
        (try dsimp only at t117 t122)
        refine go_in (wanted_at rfl rfl rfl tg rfl) ?_
        intro K hk
        clear haft hK tg hLi
        go_simp
        exact hk.out gg x (fun _ _ => rfl) hS.go
      · intro i hi; exact Or.inl (fun _ _ _ => rfl)
      refine' LinAll.cons _ ?_ ?_ ?_
      rotate_left 1
      · intro gg L a x hLi haft hS hK
        have t110 := hK.new 15 13 _ 110 _ rfl rfl rfl (by kernel_rfl) (waits haft 15 (by kernel_rfl))
        have t123 := hK.new 28 0 _ 123 _ rfl rfl rfl (by kernel_rfl) (waits haft 28 (by kernel_rfl))
        (try dsimp only at t110 t123)
        refine go_in (wanted_all rfl) ?_
        intro K hk
        clear haft hK hLi
        go_simp
        exact hk.out gg x (fun _ _ => rfl) (hS.go)
      · intro i hi; exact Or.inl (fun _ _ _ => rfl)
      refine' LinAll.cons _ ?_ ?_ ?_
      rotate_left 1
      · intro gg L a x hLi haft hS hK
        have t124 := hK.new 29 0 _ 124 _ rfl rfl rfl (by kernel_rfl) (waits haft 29 (by kernel_rfl))
        (try dsimp only at t124)
        refine go_in (wanted_all rfl) ?_
        intro K hk
        clear haft hK hLi
        go_simp
        exact hk.out gg x (fun _ _ => rfl) (hS.go)
      · intro i hi; exact Or.inl (fun _ _ _ => rfl)
      refine' LinAll.cons _ ?_ ?_ ?_
      rotate_left 1
      · intro gg L a x hLi haft hS hK
        have t17 := (hK.old 17 (by kernel_rfl)).trans o17
        have tg := hK.new 30 0 _ 125 _ rfl rfl rfl (by kernel_rfl) (waits haft 30 (by kernel_rfl))
        (try dsimp only at t17)
        refine go_in (wanted_at rfl rfl rfl tg rfl) ?_
        intro K hk
        clear haft hK tg hLi
        go_simp
        exact hk.out gg x (fun _ _ => rfl) (hS.go)
      · intro i hi; exact Or.inl (fun _ _ _ => rfl)
      refine LinAll.cons (fun _ => .int .u64 (P2 : Int)) ?_ ?_ ?_
      · intro gg L a x hLi haft hS hK
        have t126 := hK.new 31 0 _ 126 _ rfl rfl rfl (by kernel_rfl) (waits haft 31 (by kernel_rfl))
        have tg := hK.new 30 1 _ 125 _ rfl rfl rfl (by kernel_rfl) (waits haft 30 (by kernel_rfl))
        (try dsimp only at t126)
        refine go_in (wanted_at rfl rfl rfl tg rfl) ?_
        intro K hk
        have hCX := HC1C.out x hS.bel
        clear haft hK tg hLi
        go_simp
        refine Calls.mono hCX ?_
        rintro e y ⟨rfl, hy⟩
        exact hk.out gg y (fun _ _ => rfl) (hS.called hy)
      · intro i hi; exact Or.inl (fun _ _ _ => rfl)
      refine' LinAll.cons _ ?_ ?_ ?_
      rotate_left 1
      · intro gg L a x hLi haft hS hK
        have t9 := (hK.old 9 (by kernel_rfl)).trans o9
        have tg := hK.new 30 2 _ 125 _ rfl rfl rfl (by kernel_rfl) (waits haft 30 (by kernel_rfl))
        (try dsimp only at t9)
        have cX := bel_cell hS.bel lb cb
        refine go_in (wanted_at rfl rfl rfl tg rfl) ?_
        intro K hk
        clear haft hK tg hLi
        go_simp
        exact hk.out gg x (fun _ _ => rfl) (hS.go)
      · intro i hi; exact Or.inl (fun _ _ _ => rfl)
      refine' LinAll.cons _ ?_ ?_ ?_
      rotate_left 1
      · intro gg L a x hLi haft hS hK
        have t128 := hK.new 33 0 _ 128 _ rfl rfl rfl (by kernel_rfl) (waits haft 33 (by kernel_rfl))
        have tg := hK.new 30 3 _ 125 _ rfl rfl rfl (by kernel_rfl) (waits haft 30 (by kernel_rfl))
        (try dsimp only at t128)
        refine go_in (wanted_at rfl rfl rfl tg rfl) ?_
        intro K hk
        clear haft hK tg hLi
        go_simp
        exact hk.out gg x (fun _ _ => rfl) (hS.go)
      · intro i hi; exact Or.inl (fun _ _ _ => rfl)
      refine' LinAll.cons _ ?_ ?_ ?_
      rotate_left 1
      · intro gg L a x hLi haft hS hK
        have t129 := hK.new 34 0 _ 129 _ rfl rfl rfl (by kernel_rfl) (waits haft 34 (by kernel_rfl))
        have tg := hK.new 30 4 _ 125 _ rfl rfl rfl (by kernel_rfl) (waits haft 30 (by kernel_rfl))
        (try dsimp only at t129)
        refine go_in (wanted_at rfl rfl rfl tg rfl) ?_
        intro K hk
        clear haft hK tg hLi
        go_simp
        exact hk.out gg x (fun _ _ => rfl) (hS.go)
      · intro i hi; exact Or.inl (fun _ _ _ => rfl)
      refine' LinAll.cons _ ?_ ?_ ?_
      rotate_left 1
      · intro gg L a x hLi haft hS hK
        have t130 := hK.new 35 0 _ 130 _ rfl rfl rfl (by kernel_rfl) (waits haft 35 (by kernel_rfl))
        have tg := hK.new 30 5 _ 125 _ rfl rfl rfl (by kernel_rfl) (waits haft 30 (by kernel_rfl))
        (try dsimp only at t130)
        have cX := bel_cell hS.bel lw m1
        refine go_in (wanted_at rfl rfl rfl tg rfl) ?_
        intro K hk
        clear haft hK tg hLi
        go_simp
        exact hk.out gg x (fun _ _ => rfl) (hS.go)
      · intro i hi; exact Or.inl (fun _ _ _ => rfl)
      refine LinAll.cons (fun _ => .int .u64 (P2 : Int)) ?_ ?_ ?_
      · intro gg L a x hLi haft hS hK
        have t131 := hK.new 36 0 _ 131 _ rfl rfl rfl (by kernel_rfl) (waits haft 36 (by kernel_rfl))
        have tg := hK.new 30 6 _ 125 _ rfl rfl rfl (by kernel_rfl) (waits haft 30 (by kernel_rfl))
        (try dsimp only at t131)
        refine go_in (wanted_at rfl rfl rfl tg rfl) ?_
        intro K hk
        clear haft hK tg hLi
        go_simp
        exact hk.out gg x (fun _ _ => rfl) hS.go
      · intro i hi; exact Or.inl (fun _ _ _ => rfl)
      refine LinAll.cons (fun _ => .bool true) ?_ ?_ ?_
      · intro gg L a x hLi haft hS hK
        have t127 := hK.new 32 5 _ 127 _ rfl rfl rfl (by kernel_rfl) (waits haft 32 (by kernel_rfl))
        have t132 := hK.new 37 0 _ 132 _ rfl rfl rfl (by kernel_rfl) (waits haft 37 (by kernel_rfl))
        have tg := hK.new 30 7 _ 125 _ rfl rfl rfl (by kernel_rfl) (waits haft 30 (by kernel_rfl))
        (try dsimp only at t127 t132)
        refine go_in (wanted_at rfl rfl rfl tg rfl) ?_
        intro K hk
        clear haft hK tg hLi
        go_simp
        exact hk.out gg x (fun _ _ => rfl) hS.go
      · intro i hi; exact Or.inl (fun _ _ _ => rfl)
      refine' LinAll.cons _ ?_ ?_ ?_
      rotate_left 1
      · intro gg L a x hLi haft hS hK
        have t125 := hK.new 30 8 _ 125 _ rfl rfl rfl (by kernel_rfl) (waits haft 30 (by kernel_rfl))
        have t133 := hK.new 38 0 _ 133 _ rfl rfl rfl (by kernel_rfl) (waits haft 38 (by kernel_rfl))
        (try dsimp only at t125 t133)
        refine go_in (wanted_all rfl) ?_
        intro K hk
        clear haft hK hLi
        go_simp
        exact hk.out gg x (fun _ _ => rfl) (hS.go)
      · intro i hi; exact Or.inl (fun _ _ _ => rfl)
      refine' LinAll.cons _ ?_ ?_ ?_
      rotate_left 1
      · intro gg L a x hLi haft hS hK
        have t134 := hK.new 39 0 _ 134 _ rfl rfl rfl (by kernel_rfl) (waits haft 39 (by kernel_rfl))
        (try dsimp only at t134)
        refine go_in (wanted_all rfl) ?_
        intro K hk
        clear haft hK hLi
        go_simp
        exact hk.out gg x (fun _ _ => rfl) (hS.go)
      · intro i hi; exact Or.inl (fun _ _ _ => rfl)
      refine' LinAll.cons _ ?_ ?_ ?_
      rotate_left 1
      · intro gg L a x hLi haft hS hK
        have t17 := (hK.old 17 (by kernel_rfl)).trans o17
        have tg := hK.new 40 0 _ 135 _ rfl rfl rfl (by kernel_rfl) (waits haft 40 (by kernel_rfl))
        (try dsimp only at t17)
        refine go_in (wanted_at rfl rfl rfl tg rfl) ?_
        intro K hk
        clear haft hK tg hLi
        go_simp
        exact hk.out gg x (fun _ _ => rfl) (hS.go)
      · intro i hi; exact Or.inl (fun _ _ _ => rfl)
      refine LinAll.cons (fun _ => .int .u64 0) ?_ ?_ ?_
      · intro gg L a x hLi haft hS hK
        have t136 := hK.new 41 0 _ 136 _ rfl rfl rfl (by kernel_rfl) (waits haft 41 (by kernel_rfl))
        have tg := hK.new 40 1 _ 135 _ rfl rfl rfl (by kernel_rfl) (waits haft 40 (by kernel_rfl))
        (try dsimp only at t136)
        refine go_in (wanted_at rfl rfl rfl tg rfl) ?_
        intro K hk
        have hCX := HC0C.out x hS.bel
        clear haft hK tg hLi
        go_simp
        refine Calls.mono hCX ?_
        rintro e y ⟨rfl, hy⟩
        exact hk.out gg y (fun _ _ => rfl) (hS.called hy)
      · intro i hi; exact Or.inl (fun _ _ _ => rfl)
      refine LinAll.cons (fun _ => .bool true) ?_ ?_ ?_
      · intro gg L a x hLi haft hS hK
        have t137 := hK.new 42 0 _ 137 _ rfl rfl rfl (by kernel_rfl) (waits haft 42 (by kernel_rfl))
        have tg := hK.new 40 2 _ 135 _ rfl rfl rfl (by kernel_rfl) (waits haft 40 (by kernel_rfl))
        (try dsimp only at t137)
        refine go_in (wanted_at rfl rfl rfl tg rfl) ?_
        intro K hk
        clear haft hK tg hLi
        go_simp
        exact hk.out gg x (fun _ _ => rfl) hS.go
      · intro i hi; exact Or.inl (fun _ _ _ => rfl)
      refine' LinAll.cons _ ?_ ?_ ?_
      rotate_left 1
      · intro gg L a x hLi haft hS hK
        have t135 := hK.new 40 3 _ 135 _ rfl rfl rfl (by kernel_rfl) (waits haft 40 (by kernel_rfl))
        have t138 := hK.new 43 0 _ 138 _ rfl rfl rfl (by kernel_rfl) (waits haft 43 (by kernel_rfl))
        (try dsimp only at t135 t138)
        refine go_in (wanted_all rfl) ?_
        intro K hk
        clear haft hK hLi
        go_simp
        exact hk.out gg x (fun _ _ => rfl) (hS.go)
      · intro i hi; exact Or.inl (fun _ _ _ => rfl)
      refine' LinAll.cons _ ?_ ?_ ?_
      rotate_left 1
      · intro gg L a x hLi haft hS hK
        have t139 := hK.new 44 0 _ 139 _ rfl rfl rfl (by kernel_rfl) (waits haft 44 (by kernel_rfl))
        (try dsimp only at t139)
        refine go_in (wanted_all rfl) ?_
        intro K hk
        clear haft hK hLi
        go_simp
        exact hk.out gg x (fun _ _ => rfl) (hS.go)
      · intro i hi; exact Or.inl (fun _ _ _ => rfl)
      refine LinAll.nil fun gg Y5 hS => ?_
      subst ha0
      simp only [Act.put, List.setIfInBounds_toArray, List.set_cons_zero, List.set_cons_succ]
      clear o9 o11 o12 o13 o15 o16 o17
      have hb5 := hS.bel
      clear hS m1 lw cb lb
      go_wp2_with fail
      go_ret
      exact ⟨rfl, HBE.out.trans (hb5.mono HBE.out.size)⟩
end Go.Proofs.YtohfjpahdoodgaaGreatDoor
