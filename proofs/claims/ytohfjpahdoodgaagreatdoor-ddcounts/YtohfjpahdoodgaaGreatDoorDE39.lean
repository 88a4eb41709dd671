/- The laws' world: a step. -/
import Derived.Test.YtohfjpahdoodgaaGreatDoorDE38
namespace Go.Proofs.YtohfjpahdoodgaaGreatDoor
open Go.RowKit
set_option linter.unusedSimpArgs false
set_option linter.unusedVariables false

set_option maxRecDepth 20000 in
set_option maxHeartbeats 6400000 in
theorem does_6 {w0 : Wx} {w : World} {F : Nat → Prop} {wb g n most : Nat} {lv : Value} {S : St} {pn : Int → Int} {H : List HT} (h : Hf w0 w F wb lv g n most S pn H) (pu : Pu n S pn H) (hn : n ≤ 7) (hroom : cntF S.ns + 2 ^ n ≤ most + 1) (hfew : H.length ≤ 40) (qa qb qc : Int) :
    Calls Tryz.prog 6 #[.pointer (some ⟨wb, 0, none⟩), .agg #[.int .i64 (6), .int .i64 qa, .int .i64 qb, .int .i64 qc]] w fun e w' => e = .returned (.tuple #[]) ∧ DoR w0 w' wb g n most S H := by
  obtain ⟨ka, hka⟩ : ∃ ka : Nat, (ka : Int) = qa % (H.length : Int) := ⟨(qa % (H.length : Int)).toNat, Int.toNat_of_nonneg (Int.emod_nonneg _ (by have := pu.len; omega))⟩
  obtain ⟨kb, hkb⟩ : ∃ kb : Nat, (kb : Int) = qb % (H.length : Int) := ⟨(qb % (H.length : Int)).toNat, Int.toNat_of_nonneg (Int.emod_nonneg _ (by have := pu.len; omega))⟩
  obtain ⟨kc, hkc⟩ : ∃ kc : Nat, (kc : Int) = qc % (H.length : Int) := ⟨(qc % (H.length : Int)).toNat, Int.toNat_of_nonneg (Int.emod_nonneg _ (by have := pu.len; omega))⟩
  obtain ⟨⟨fa, va, ta⟩, hpa⟩ : ∃ p, H[ka]? = some p := ⟨_, List.getElem?_eq_getElem (by have := pu.len; have := Int.emod_lt_of_pos qa (show (0 : Int) < (H.length : Int) by omega); omega)⟩
  obtain ⟨⟨fb, vb, tb⟩, hpb⟩ : ∃ p, H[kb]? = some p := ⟨_, List.getElem?_eq_getElem (by have := pu.len; have := Int.emod_lt_of_pos qb (show (0 : Int) < (H.length : Int) by omega); omega)⟩
  obtain ⟨⟨fc, vc, tc⟩, hpc⟩ : ∃ p, H[kc]? = some p := ⟨_, List.getElem?_eq_getElem (by have := pu.len; have := Int.emod_lt_of_pos qc (show (0 : Int) < (H.length : Int) by omega); omega)⟩
  obtain ⟨ala, eta⟩ := pu.al _ (List.mem_of_getElem? hpa)
  obtain ⟨alb, etb⟩ := pu.al _ (List.mem_of_getElem? hpb)
  obtain ⟨alc, etc⟩ := pu.al _ (List.mem_of_getElem? hpc)
  dsimp only at ala alb alc eta etb etc
  have HTA : Hid (Tb w F w0.w.heap.size va ta) := h.hl.tb _ (List.mem_of_getElem? hpa)
  have HTB : Hid (Tb w F w0.w.heap.size vb tb) := h.hl.tb _ (List.mem_of_getElem? hpb)
  have HTC : Hid (Tb w F w0.w.heap.size vc tc) := h.hl.tb _ (List.mem_of_getElem? hpc)
  have HALA : Hid (alive S.ns fa) := ala
  have HALB : Hid (alive S.ns fb) := alb
  have HALC : Hid (alive S.ns fc) := alc
  have HETA : Hid (ta = tabV n (fun x => val n S.ns x fa)) := eta
  have HETB : Hid (tb = tabV n (fun x => val n S.ns x fb)) := etb
  have HETC : Hid (tc = tabV n (fun x => val n S.ns x fc)) := etc
  have HAA : Hid (∀ wx, Below w.heap.size w wx → Calls Tryz.prog 7 #[.pointer (some ⟨wb, 0, none⟩), .int .i64 qa] wx fun e w' => e = .returned (.agg #[.int .i64 fa, va]) ∧ Below wx.heap.size wx w') := fun wx hb => at_any (h.below hb) qa hka hpa
  have HAB : Hid (∀ wx, Below w.heap.size w wx → Calls Tryz.prog 7 #[.pointer (some ⟨wb, 0, none⟩), .int .i64 qb] wx fun e w' => e = .returned (.agg #[.int .i64 fb, vb]) ∧ Below wx.heap.size wx w') := fun wx hb => at_any (h.below hb) qb hkb hpb
  have HAC : Hid (∀ wx, Below w.heap.size w wx → Calls Tryz.prog 7 #[.pointer (some ⟨wb, 0, none⟩), .int .i64 qc] wx fun e w' => e = .returned (.agg #[.int .i64 fc, vc]) ∧ Below wx.heap.size wx w') := fun wx hb => at_any (h.below hb) qc hkc hpc
  obtain ⟨ra, la, eva⟩ : ∃ r l, va = .slice (some ⟨r, 0, none⟩) l l := by obtain ⟨r, cs, e, -⟩ := HTA.out.ex; exact ⟨r, _, e⟩
  obtain ⟨rb, lb, evb⟩ : ∃ r l, vb = .slice (some ⟨r, 0, none⟩) l l := by obtain ⟨r, cs, e, -⟩ := HTB.out.ex; exact ⟨r, _, e⟩
  obtain ⟨rc, lc, evc⟩ : ∃ r l, vc = .slice (some ⟨r, 0, none⟩) l l := by obtain ⟨r, cs, e, -⟩ := HTC.out.ex; exact ⟨r, _, e⟩
  subst eva evb evc
  have HF : Hid (Hf w0 w F wb lv g n most S pn H) := h
  have HPU : Hid (Pu n S pn H) := pu
  obtain ⟨W1, hW1⟩ : ∃ W1, W1 = w.alloc (.cells #[.int .i64 (6), .int .i64 qa, .int .i64 qb, .int .i64 qc] 32) := ⟨_, rfl⟩
  have hb1 : Below w.heap.size w W1 := by rw [hW1]; go_grown
  have sbk : W1.heap[w.heap.size]? = some (.cells #[.int .i64 (6), .int .i64 qa, .int .i64 qb, .int .i64 qc] 32 (0, 0)) := by rw [hW1]; exact heap_alloc_new _ _
  have s0 := cell_of sbk 0 rfl
  have s1 := cell_of sbk 1 rfl
  have s2 := cell_of sbk 2 rfl
  have s3 := cell_of sbk 3 rfl
  have hsl := blk_lt sbk
  have HB1 : Hid (Below w.heap.size w W1) := hb1
  have HKA : Hid ((ka : Int) = qa % (H.length : Int)) := hka
  have HPA : Hid (H[ka]? = some (fa, .slice (some ⟨ra, 0, none⟩) la la, ta)) := hpa
  clear hka hkb hkc hpa hpb hpc ala alb alc eta etb etc h pu hb1
  go_enter Tryz.func6, Tryz.ntmps6
  go_upto_region 1 with fail
  rw [← hW1]
  clear hW1
  refine wp_named fun a0 ha0 => ?_
  have o0 := old_at ha0 (t := 0) rfl
  have o3 := old_at ha0 (t := 3) rfl
  refine wp_region_lin (S := DS W1 (fun k => if k = 12 then fa else if k = 13 then fb else fc) (fun k => if k = 12 then .slice (some ⟨ra, 0, none⟩) la la else if k = 13 then .slice (some ⟨rb, 0, none⟩) lb lb else .slice (some ⟨rc, 0, none⟩) lc lc)) [12, 13, 14] (fun _ => 0) (by kernel_rfl) (by kernel_rfl) (by rw [← ha0]; kernel_rfl) (DS.start) ?_
  refine' LinAll.cons _ ?_ ?_ ?_
  rotate_left 1
  · intro gg L a x hLi haft hS hK
    have t0 := (hK.old 0 (by kernel_rfl)).trans o0
    (try dsimp only at t0)
    refine go_in (wanted_all rfl) ?_
    intro K hk
    clear haft hK hLi
    go_simp
    exact hk.out gg x (fun _ _ => rfl) (hS.go (by decide))
  · intro i hi; exact Or.inl (fun _ _ _ => rfl)
  refine' LinAll.cons _ ?_ ?_ ?_
  rotate_left 1
  · intro gg L a x hLi haft hS hK
    have t3 := (hK.old 3 (by kernel_rfl)).trans o3
    (try dsimp only at t3)
    refine go_in (wanted_all rfl) ?_
    intro K hk
    clear haft hK hLi
    go_simp
    exact hk.out gg x (fun _ _ => rfl) (hS.go (by decide))
  · intro i hi; exact Or.inl (fun _ _ _ => rfl)
  refine' LinAll.cons _ ?_ ?_ ?_
  rotate_left 1
  · intro gg L a x hLi haft hS hK
    have t15 := hK.new 1 0 _ 15 _ rfl rfl rfl (by kernel_rfl) (waits haft 1 (by kernel_rfl))
    (try dsimp only at t15)
    have cX : x.cell? ⟨w.heap.size, 1, none⟩ = some (.int .i64 qa) := (hS.bel.cell (p := ⟨w.heap.size, 1, none⟩) hsl).trans s1
    refine go_in (wanted_all rfl) ?_
    intro K hk
    clear haft hK hLi
    go_simp
    exact hk.out gg x (fun _ _ => rfl) (hS.go (by decide))
  · intro i hi; exact Or.inl (fun _ _ _ => rfl)
  refine LinAll.cons (fun _ => .agg #[.int .i64 fa, .slice (some ⟨ra, 0, none⟩) la la]) ?_ ?_ ?_
  · intro gg L a x hLi haft hS hK
    have t14 := hK.new 0 2 _ 14 _ rfl rfl rfl (by kernel_rfl) (waits haft 0 (by kernel_rfl))
    have t16 := hK.new 2 0 _ 16 _ rfl rfl rfl (by kernel_rfl) (waits haft 2 (by kernel_rfl))
    (try dsimp only at t14 t16)
    refine go_in (wanted_all rfl) ?_
    intro K hk
    have hbx := HB1.out.trans (hS.bel.mono HB1.out.size)
    clear haft hK hLi
    go_simp
    refine Calls.mono (HAA.out x hbx) ?_
    rintro e y ⟨rfl, hy⟩
    exact hk.out gg y (fun _ _ => rfl) (hS.called (by decide) hy)
  · intro i hi; exact Or.inl (fun _ _ _ => rfl)
  refine' LinAll.cons _ ?_ ?_ ?_
  rotate_left 1
  · intro gg L a x hLi haft hS hK
    have t0 := (hK.old 0 (by kernel_rfl)).trans o0
    (try dsimp only at t0)
    refine go_in (wanted_all rfl) ?_
    intro K hk
    clear haft hK hLi
    go_simp
    exact hk.out gg x (fun _ _ => rfl) (hS.go (by decide))
  · intro i hi; exact Or.inl (fun _ _ _ => rfl)
  refine' LinAll.cons _ ?_ ?_ ?_
  rotate_left 1
  · intro gg L a x hLi haft hS hK
    have t3 := (hK.old 3 (by kernel_rfl)).trans o3
    (try dsimp only at t3)
    refine go_in (wanted_all rfl) ?_
    intro K hk
    clear haft hK hLi
    go_simp
    exact hk.out gg x (fun _ _ => rfl) (hS.go (by decide))
  · intro i hi; exact Or.inl (fun _ _ _ => rfl)
  refine' LinAll.cons _ ?_ ?_ ?_
  rotate_left 1
  · intro gg L a x hLi haft hS hK
    have t19 := hK.new 5 0 _ 19 _ rfl rfl rfl (by kernel_rfl) (waits haft 5 (by kernel_rfl))
    (try dsimp only at t19)
    have cX : x.cell? ⟨w.heap.size, 2, none⟩ = some (.int .i64 qb) := (hS.bel.cell (p := ⟨w.heap.size, 2, none⟩) hsl).trans s2
    refine go_in (wanted_all rfl) ?_
    intro K hk
    clear haft hK hLi
    go_simp
    exact hk.out gg x (fun _ _ => rfl) (hS.go (by decide))
  · intro i hi; exact Or.inl (fun _ _ _ => rfl)
  refine LinAll.cons (fun _ => .agg #[.int .i64 fb, .slice (some ⟨rb, 0, none⟩) lb lb]) ?_ ?_ ?_
  · intro gg L a x hLi haft hS hK
    have t18 := hK.new 4 2 _ 18 _ rfl rfl rfl (by kernel_rfl) (waits haft 4 (by kernel_rfl))
    have t20 := hK.new 6 0 _ 20 _ rfl rfl rfl (by kernel_rfl) (waits haft 6 (by kernel_rfl))
    (try dsimp only at t18 t20)
    refine go_in (wanted_all rfl) ?_
    intro K hk
    have hbx := HB1.out.trans (hS.bel.mono HB1.out.size)
    clear haft hK hLi
    go_simp
    refine Calls.mono (HAB.out x hbx) ?_
    rintro e y ⟨rfl, hy⟩
    exact hk.out gg y (fun _ _ => rfl) (hS.called (by decide) hy)
  · intro i hi; exact Or.inl (fun _ _ _ => rfl)
  refine' LinAll.cons _ ?_ ?_ ?_
  rotate_left 1
  · intro gg L a x hLi haft hS hK
    have t0 := (hK.old 0 (by kernel_rfl)).trans o0
    (try dsimp only at t0)
    refine go_in (wanted_all rfl) ?_
    intro K hk
    clear haft hK hLi
    go_simp
    exact hk.out gg x (fun _ _ => rfl) (hS.go (by decide))
  · intro i hi; exact Or.inl (fun _ _ _ => rfl)
  refine' LinAll.cons _ ?_ ?_ ?_
  rotate_left 1
  · intro gg L a x hLi haft hS hK
    have t3 := (hK.old 3 (by kernel_rfl)).trans o3
    (try dsimp only at t3)
    refine go_in (wanted_all rfl) ?_
    intro K hk
    clear haft hK hLi
    go_simp
    exact hk.out gg x (fun _ _ => rfl) (hS.go (by decide))
  · intro i hi; exact Or.inl (fun _ _ _ => rfl)
  refine' LinAll.cons _ ?_ ?_ ?_
  rotate_left 1
  · intro gg L a x hLi haft hS hK
    have t23 := hK.new 9 0 _ 23 _ rfl rfl rfl (by kernel_rfl) (waits haft 9 (by kernel_rfl))
    (try dsimp only at t23)
    have cX : x.cell? ⟨w.heap.size, 3, none⟩ = some (.int .i64 qc) := (hS.bel.cell (p := ⟨w.heap.size, 3, none⟩) hsl).trans s3
    refine go_in (wanted_all rfl) ?_
    intro K hk
    clear haft hK hLi
    go_simp
    exact hk.out gg x (fun _ _ => rfl) (hS.go (by decide))
  · intro i hi; exact Or.inl (fun _ _ _ => rfl)
  refine LinAll.cons (fun _ => .agg #[.int .i64 fc, .slice (some ⟨rc, 0, none⟩) lc lc]) ?_ ?_ ?_
  · intro gg L a x hLi haft hS hK
    have t22 := hK.new 8 2 _ 22 _ rfl rfl rfl (by kernel_rfl) (waits haft 8 (by kernel_rfl))
    have t24 := hK.new 10 0 _ 24 _ rfl rfl rfl (by kernel_rfl) (waits haft 10 (by kernel_rfl))
    (try dsimp only at t22 t24)
    refine go_in (wanted_all rfl) ?_
    intro K hk
    have hbx := HB1.out.trans (hS.bel.mono HB1.out.size)
    clear haft hK hLi
    go_simp
    refine Calls.mono (HAC.out x hbx) ?_
    rintro e y ⟨rfl, hy⟩
    exact hk.out gg y (fun _ _ => rfl) (hS.called (by decide) hy)
  · intro i hi; exact Or.inl (fun _ _ _ => rfl)
  refine LinAll.cons (fun g => .pointer (some ⟨g 12, 0, none⟩)) ?_ ?_ ?_
  · intro gg L a x hLi haft hS hK
    refine go_in (wanted_all rfl) ?_
    intro K hk
    have h3 : L 15 = false := off_b (fun e => hS.od 12 (by decide) e) hLi
    clear haft hK
    go_simp
    have hq := hk.out (updG gg 12 x.heap.size) _ (updG_al (by rfl)) (hS.made (k := 12) (by decide) h3 hLi)
    dsimp only at hq; rw [updG_eq] at hq; exact hq
  · intro i hi
    simp only [List.mem_cons, List.not_mem_nil, or_false] at hi
    rcases hi with rfl | rfl | rfl
    · exact Or.inr (by kernel_rfl)
    · exact Or.inl (fun g g' h => by simp only [h 12 (by decide)])
    · exact Or.inl (fun g g' h => by simp only [h 12 (by decide)])
  refine LinAll.cons (fun g => .pointer (some ⟨g 13, 0, none⟩)) ?_ ?_ ?_
  · intro gg L a x hLi haft hS hK
    refine go_in (wanted_all rfl) ?_
    intro K hk
    have h3 : L 16 = false := off_b (fun e => hS.od 13 (by decide) e) hLi
    clear haft hK
    go_simp
    have hq := hk.out (updG gg 13 x.heap.size) _ (updG_al (by rfl)) (hS.made (k := 13) (by decide) h3 hLi)
    dsimp only at hq; rw [updG_eq] at hq; exact hq
  · intro i hi
    simp only [List.mem_cons, List.not_mem_nil, or_false] at hi
    rcases hi with rfl | rfl | rfl
    · exact Or.inl (fun g g' h => by simp only [h 13 (by decide)])
    · exact Or.inr (by kernel_rfl)
    · exact Or.inl (fun g g' h => by simp only [h 13 (by decide)])
  refine LinAll.cons (fun g => .pointer (some ⟨g 14, 0, none⟩)) ?_ ?_ ?_
  · intro gg L a x hLi haft hS hK
    refine go_in (wanted_all rfl) ?_
    intro K hk
    have h3 : L 17 = false := off_b (fun e => hS.od 14 (by decide) e) hLi
    clear haft hK
    go_simp
    have hq := hk.out (updG gg 14 x.heap.size) _ (updG_al (by rfl)) (hS.made (k := 14) (by decide) h3 hLi)
    dsimp only at hq; rw [updG_eq] at hq; exact hq
  · intro i hi
    simp only [List.mem_cons, List.not_mem_nil, or_false] at hi
    rcases hi with rfl | rfl | rfl
    · exact Or.inl (fun g g' h => by simp only [h 14 (by decide)])
    · exact Or.inl (fun g g' h => by simp only [h 14 (by decide)])
    · exact Or.inr (by kernel_rfl)
  refine LinAll.cons (fun _ => undef) ?_ ?_ ?_
  · intro gg L a x hLi haft hS hK
    have t4 := hK.new 12 2 _ 4 _ rfl rfl rfl (by kernel_rfl) (waits haft 12 (by kernel_rfl))
    have t17 := hK.new 3 11 _ 17 _ rfl rfl rfl (by kernel_rfl) (waits haft 3 (by kernel_rfl))
    (try dsimp only at t4 t17)
    have hk1 := waits haft 12 (by kernel_rfl)
    obtain ⟨hl1, hl2⟩ := hS.al 12 (by decide) hk1
    rw [hLi] at hl2
    have cX0 := cell_of hl2 0 rfl
    have cX1 := cell_of hl2 1 rfl
    have fX0 := frz hl2 0
    have fX1 := frz hl2 1
    have hst := hS.stored (k := 12) (by decide) hLi hk1
    clear hl1 hl2 hk1
    refine go_in (wanted_all rfl) ?_
    intro K hk
    clear haft hK hLi
    go_simp
    exact hk.out gg _ (fun _ _ => rfl) hst
  · intro i hi; exact Or.inl (fun _ _ _ => rfl)
  refine LinAll.cons (fun _ => undef) ?_ ?_ ?_
  · intro gg L a x hLi haft hS hK
    have t5 := hK.new 13 2 _ 5 _ rfl rfl rfl (by kernel_rfl) (waits haft 13 (by kernel_rfl))
    have t21 := hK.new 7 8 _ 21 _ rfl rfl rfl (by kernel_rfl) (waits haft 7 (by kernel_rfl))
    (try dsimp only at t5 t21)
    have hk1 := waits haft 13 (by kernel_rfl)
    obtain ⟨hl1, hl2⟩ := hS.al 13 (by decide) hk1
    rw [hLi] at hl2
    have cX0 := cell_of hl2 0 rfl
    have cX1 := cell_of hl2 1 rfl
    have fX0 := frz hl2 0
    have fX1 := frz hl2 1
    have hst := hS.stored (k := 13) (by decide) hLi hk1
    clear hl1 hl2 hk1
    refine go_in (wanted_all rfl) ?_
    intro K hk
    clear haft hK hLi
    go_simp
    exact hk.out gg _ (fun _ _ => rfl) hst
  · intro i hi; exact Or.inl (fun _ _ _ => rfl)
  refine LinAll.cons (fun _ => undef) ?_ ?_ ?_
  · intro gg L a x hLi haft hS hK
    have t6 := hK.new 14 2 _ 6 _ rfl rfl rfl (by kernel_rfl) (waits haft 14 (by kernel_rfl))
    have t25 := hK.new 11 5 _ 25 _ rfl rfl rfl (by kernel_rfl) (waits haft 11 (by kernel_rfl))
    (try dsimp only at t6 t25)
    have hk1 := waits haft 14 (by kernel_rfl)
    obtain ⟨hl1, hl2⟩ := hS.al 14 (by decide) hk1
    rw [hLi] at hl2
    have cX0 := cell_of hl2 0 rfl
    have cX1 := cell_of hl2 1 rfl
    have fX0 := frz hl2 0
    have fX1 := frz hl2 1
    have hst := hS.stored (k := 14) (by decide) hLi hk1
    clear hl1 hl2 hk1
    refine go_in (wanted_all rfl) ?_
    intro K hk
    clear haft hK hLi
    go_simp
    exact hk.out gg _ (fun _ _ => rfl) hst
  · intro i hi; exact Or.inl (fun _ _ _ => rfl)
  refine LinAll.nil fun gx X1 hS => ?_
  subst ha0
  simp only [Act.put, List.setIfInBounds_toArray, List.set_cons_zero, List.set_cons_succ]
  clear o0 o3
  have HB2 : Hid (Below w.heap.size w X1) := HB1.out.trans (hS.bel.mono HB1.out.size)
  obtain ⟨la12, ba⟩ := hS.al 12 (by decide) (by kernel_rfl)
  obtain ⟨la13, bb⟩ := hS.al 13 (by decide) (by kernel_rfl)
  obtain ⟨la14, bc⟩ := hS.al 14 (by decide) (by kernel_rfl)
  rw [if_pos (by kernel_rfl)] at ba bb bc
  replace ba : X1.heap[gx 12]? = some (.cells #[.int .i64 fa, .slice (some ⟨ra, 0, none⟩) la la] 36 (0, 0)) := ba
  replace bb : X1.heap[gx 13]? = some (.cells #[.int .i64 fb, .slice (some ⟨rb, 0, none⟩) lb lb] 36 (0, 0)) := bb
  replace bc : X1.heap[gx 14]? = some (.cells #[.int .i64 fc, .slice (some ⟨rc, 0, none⟩) lc lc] 36 (0, 0)) := bc
  obtain ⟨ga, hga⟩ : ∃ ga, ga = gx 12 := ⟨_, rfl⟩
  obtain ⟨gb, hgb⟩ : ∃ gb, gb = gx 13 := ⟨_, rfl⟩
  obtain ⟨gc, hgc⟩ : ∃ gc, gc = gx 14 := ⟨_, rfl⟩
  rw [← hga] at ba la12 ⊢
  rw [← hgb] at bb la13 ⊢
  rw [← hgc] at bc la14 ⊢
  obtain ⟨sb, hsb⟩ : ∃ sb, sb = w.heap.size := ⟨_, rfl⟩
  have s0x : X1.cell? ⟨sb, 0, none⟩ = some (.int .i64 (6)) := by rw [hsb]; exact (hS.bel.cell (p := ⟨w.heap.size, 0, none⟩) hsl).trans s0
  have s1x : X1.cell? ⟨sb, 1, none⟩ = some (.int .i64 qa) := by rw [hsb]; exact (hS.bel.cell (p := ⟨w.heap.size, 1, none⟩) hsl).trans s1
  have hsx : sb < X1.heap.size := by rw [hsb]; have := hS.bel.size; omega
  have HSB : Hid (sb = w.heap.size) := hsb
  rw [← hsb]
  have pa0 := cell_of ba 0 rfl
  have pa1 := cell_of ba 1 rfl
  have pb0 := cell_of bb 0 rfl
  have pb1 := cell_of bb 1 rfl
  have pc0 := cell_of bc 0 rfl
  have pc1 := cell_of bc 1 rfl
  have lga := blk_lt ba
  have lgb := blk_lt bb
  have lgc := blk_lt bc
  have HLA : Hid (w.heap.size ≤ ga ∧ w.heap.size ≤ gb ∧ w.heap.size ≤ gc) := by have := HB1.out.size; unfold Hid; omega
  clear hga hgb hgc s0 s1 s2 s3 hsl sbk ba bb bc hS la12 la13 la14 hsb
  have HFX : Hid (Hf w0 X1 (Fc w F) wb lv g n most S pn H) := HF.out.cut.below HB2.out
  obtain ⟨m0, m1, m3, m4, lwb, -⟩ := HFX.out.cells
  have HTX : Hid (Tb X1 (Fc w F) w0.w.heap.size (.slice (some ⟨ra, 0, none⟩) la la) ta ∧ Tb X1 (Fc w F) w0.w.heap.size (.slice (some ⟨rb, 0, none⟩) lb lb) tb ∧ Tb X1 (Fc w F) w0.w.heap.size (.slice (some ⟨rc, 0, none⟩) lc lc) tc) := ⟨HTA.out.keep fun k cs e hf => ⟨HB2.out.block k (blk_lt e), fun q => hf q.1⟩, HTB.out.keep fun k cs e hf => ⟨HB2.out.block k (blk_lt e), fun q => hf q.1⟩, HTC.out.keep fun k cs e hf => ⟨HB2.out.block k (blk_lt e), fun q => hf q.1⟩⟩
  clear HAA HAB HAC HTA HTB HTC HB1
  have hNO : Hid _ := tconst_any hn false X1
  go_wp2_with fail
  refine Calls.mono hNO.out ?_
  rintro e x1 ⟨u0, rfl, hu0⟩
  obtain ⟨r0, eu0⟩ := hu0.ex
  rw [tabV_len'] at eu0
  subst eu0
  have hB3 := hu0.bel
  have HT0 : Hid (Tb x1 (Fc w F) w0.w.heap.size (.slice (some ⟨r0, 0, none⟩) (N2 n) (N2 n)) (tabV n fun _ => false)) := Tn.tb hu0 (by have := HFX.out.bel.size; omega) (fun k hk => Nat.lt_of_lt_of_le hk.2 HB2.out.size)
  have m1' := bel_cell hB3 lwb m1
  have HB3 : Hid _ := hB3
  have lwb3 := Nat.lt_of_lt_of_le lwb hB3.size
  clear hu0 hB3 hNO
  have hYS : Hid _ := tconst_any hn true x1
  go_wp2_with fail
  refine Calls.mono hYS.out ?_
  rintro e X3 ⟨u1, rfl, hu1⟩
  obtain ⟨r1, eu1⟩ := hu1.ex
  rw [tabV_len'] at eu1
  subst eu1
  have hB4 := hu1.bel
  have HT1 : Hid (Tb X3 (Fc w F) w0.w.heap.size (.slice (some ⟨r1, 0, none⟩) (N2 n) (N2 n)) (tabV n fun _ => true)) := Tn.tb hu1 (by have := HFX.out.bel.size; have := HB3.out.size; omega) (fun k hk => Nat.lt_of_lt_of_le hk.2 (Nat.le_trans HB2.out.size HB3.out.size))
  have hB5 : Below X1.heap.size X1 X3 := HB3.out.trans (hB4.mono HB3.out.size)
  have HT0' : Hid (Tb X3 (Fc w F) w0.w.heap.size (.slice (some ⟨r0, 0, none⟩) (N2 n) (N2 n)) (tabV n fun _ => false)) := HT0.out.keep fun k cs e hf => ⟨hB4.block k (blk_lt e), hf⟩
  have HTX' : Hid (Tb X3 (Fc w F) w0.w.heap.size (.slice (some ⟨ra, 0, none⟩) la la) ta ∧ Tb X3 (Fc w F) w0.w.heap.size (.slice (some ⟨rb, 0, none⟩) lb lb) tb ∧ Tb X3 (Fc w F) w0.w.heap.size (.slice (some ⟨rc, 0, none⟩) lc lc) tc) := ⟨HTX.out.1.keep fun k cs e hf => ⟨hB5.block k (blk_lt e), hf⟩, HTX.out.2.1.keep fun k cs e hf => ⟨hB5.block k (blk_lt e), hf⟩, HTX.out.2.2.keep fun k cs e hf => ⟨hB5.block k (blk_lt e), hf⟩⟩
  have HF3 : Hid (Hf w0 X3 (Fc w F) wb lv g n most S pn H) := HFX.out.below hB5
  replace m0 := bel_cell hB5 lwb m0
  replace m1 := bel_cell hB5 lwb m1
  replace pa0 := bel_cell hB5 lga pa0
  replace pb0 := bel_cell hB5 lgb pb0
  replace pc0 := bel_cell hB5 lgc pc0
  replace pa1 := bel_cell hB5 lga pa1
  replace pb1 := bel_cell hB5 lgb pb1
  replace pc1 := bel_cell hB5 lgc pc1
  replace s0x := bel_cell hB5 hsx s0x
  replace s1x := bel_cell hB5 hsx s1x
  replace lwb := Nat.lt_of_lt_of_le lwb hB5.size
  replace lga := Nat.lt_of_lt_of_le lga hB5.size
  replace lgb := Nat.lt_of_lt_of_le lgb hB5.size
  replace lgc := Nat.lt_of_lt_of_le lgc hB5.size
  replace hsx := Nat.lt_of_lt_of_le hsx hB5.size
  have HB5 : Hid (Below X1.heap.size X1 X3) := hB5
  clear m3 m4 m1' lwb3 hYS HT0 HTX HFX HB3 hu1 hB4 hB5
  have HPL : Hid (∀ wx, Calls Tryz.prog 22 #[.int .i64 qa, .int .i64 (H.length : Int)] wx fun e w' => e = .returned (.int .i64 (ka : Int)) ∧ w' = wx) := fun wx => by rw [HKA.out]; exact place_any (by have := HPU.out.len; omega) (by omega) wx
  obtain ⟨rl, cl, elv, hrl, -, -⟩ := HF3.out.hl.get HPA.out
  subst elv
  have hkl : ka < H.length := (List.getElem?_eq_some_iff.1 HPA.out).1
  obtain ⟨-, -, m3, -, -, -⟩ := HF3.out.cells
  clear m0 m1 pa0 pa1 pb0 pb1 pc0 pc1 lga lgb lgc HT0' HT1 HTX'
  go_wp2_with fail
  go_quiet ((go_at_call 22; refine Calls.quiet_of_same (HPL.out _)))
  obtain ⟨X4, hX4⟩ : ∃ X4, X4 = X3.drewN nq := ⟨_, rfl⟩
  have hb4 : Below X3.heap.size X3 X4 := by rw [hX4]; exact below_drewN (Below.refl _ _) _
  rw [← hX4]
  have HFY : Hid (Hf w0 X4 (Fc w F) wb (.slice (some ⟨rl, 0, none⟩) H.length cl) g n most S pn H) := HF3.out.below hb4
  clear hX4 hb4 m3 hrl s0x s1x HPL lwb hsx
  by_cases hk2 : 2 ≤ ka
  · have hk1 : (1 : Int) < (ka : Int) := by omega
    obtain ⟨n0, -, n3, n4, -, -⟩ := HFY.out.cells
    obtain ⟨rl', cl', elv, hrl, nk, -⟩ := HFY.out.hl.get HPA.out
    injection elv with e1 e2 e3
    injection e1 with e1
    injection e1 with e1
    subst e1 e3
    obtain ⟨hpo, hun⟩ := HPU.out.out hk2 HPA.out
    have hP := unpin_any (w := X4.drew) (F := Fc w F) (HFY.out.rm.gr.below (Below.refl _ _).drew) fa (by have := HFY.out.rm.gr.mg; have := HALA.out; exact w64_alive this HFY.out.rm.gr.mg) (by have := HPU.out.few fa; omega)
    dsimp only at hpo hun
    obtain ⟨pn', hpn'⟩ : ∃ pn', pn' = (if 1 ≤ pn fa then pinA pn fa (pn fa - 1) else pn) := ⟨_, rfl⟩
    rw [← hpn'] at hpo hP
    rw [hun] at hP
    have HPO : Hid (Pu n S pn' (outK H ka)) := hpo
    have HUP : Hid (Calls Tryz.prog 27 #[.pointer (some ⟨g, 0, none⟩), .int .i64 fa] X4.drew fun e w' => e = .returned (.int .i64 0) ∧ ∃ F1, Hf w0 w' F1 wb (.slice (some ⟨rl, 0, none⟩) H.length cl) g n most S pn' H) := by
      refine hP.mono ?_
      rintro e w' ⟨rfl, F1, h1, h2⟩
      exact ⟨rfl, F1, HFY.out.ch ⟨h2.os, h2.tape, h2.output, h2.size, h2.block, h2.foot⟩ ⟨h1, HFY.out.rm.sp, HPO.out.ps⟩⟩
    clear hpo hun hP hpn'
    go_upto_region 30 with fail
    refine wp_named fun a0 ha0 => ?_
    have o0 := old_at ha0 (t := 0) rfl
    have o13 := old_at ha0 (t := 13) rfl
    refine wp_region_lin (S := US X4 wb (fun y => ∃ F1, Hf w0 y F1 wb (.slice (some ⟨rl, 0, none⟩) H.length cl) g n most S pn' H)) [] (fun _ => 0) (by kernel_rfl) (by kernel_rfl) (by rw [← ha0]; kernel_rfl) (US.start) ?_
    refine' LinAll.cons _ ?_ ?_ ?_
    rotate_left 1
    · intro gg L a x hLi haft hS hK
      have t0 := (hK.old 0 (by kernel_rfl)).trans o0
      (try dsimp only at t0)
      refine go_in (wanted_all rfl) ?_
      intro K hk
      clear haft hK hLi
      go_simp
      exact hk.out gg x (fun _ _ => rfl) (hS.go (by decide))
    · intro i hi; exact Or.inl (fun _ _ _ => rfl)
    refine' LinAll.cons _ ?_ ?_ ?_
    rotate_left 1
    · intro gg L a x hLi haft hS hK
      have t0 := (hK.old 0 (by kernel_rfl)).trans o0
      (try dsimp only at t0)
      refine go_in (wanted_all rfl) ?_
      intro K hk
      clear haft hK hLi
      go_simp
      exact hk.out gg x (fun _ _ => rfl) (hS.go (by decide))
    · intro i hi; exact Or.inl (fun _ _ _ => rfl)
    refine' LinAll.cons _ ?_ ?_ ?_
    rotate_left 1
    · intro gg L a x hLi haft hS hK
      have t184 := hK.new 1 0 _ 184 _ rfl rfl rfl (by kernel_rfl) (waits haft 1 (by kernel_rfl))
      (try dsimp only at t184)
      refine go_in (wanted_all rfl) ?_
      intro K hk
      clear haft hK hLi
      go_simp
      exact hk.out gg x (fun _ _ => rfl) (hS.go (by decide))
    · intro i hi; exact Or.inl (fun _ _ _ => rfl)
    refine' LinAll.cons _ ?_ ?_ ?_
    rotate_left 1
    · intro gg L a x hLi haft hS hK
      have t185 := hK.new 2 0 _ 185 _ rfl rfl rfl (by kernel_rfl) (waits haft 2 (by kernel_rfl))
      (try dsimp only at t185)
      refine go_in (wanted_all rfl) ?_
      intro K hk
      clear haft hK hLi
      go_simp
      exact hk.out gg x (fun _ _ => rfl) (hS.go (by decide))
    · intro i hi; exact Or.inl (fun _ _ _ => rfl)
    refine' LinAll.cons _ ?_ ?_ ?_
    rotate_left 1
    · intro gg L a x hLi haft hS hK
      have t186 := hK.new 3 0 _ 186 _ rfl rfl rfl (by kernel_rfl) (waits haft 3 (by kernel_rfl))
      (try dsimp only at t186)
      have h18 : L 18 = false := off_b (fun e => (waits (hK.cl 5 _ rfl (waits (hK.cl 18 _ rfl e) 5 (by kernel_rfl))) 4 (by kernel_rfl))) hLi
      have hx := hS.a h18
      have cX : x.cell? ⟨wb, 4, none⟩ = some (.bool true) := by rw [hx]; exact n4
      clear hx h18
      refine go_in (wanted_all rfl) ?_
      intro K hk
      clear haft hK hLi
      go_simp
      exact hk.out gg x (fun _ _ => rfl) (hS.go (by decide))
    · intro i hi; exact Or.inl (fun _ _ _ => rfl)
    refine' LinAll.cons _ ?_ ?_ ?_
    rotate_left 1
    · intro gg L a x hLi haft hS hK
      have t187 := hK.new 4 0 _ 187 _ rfl rfl rfl (by kernel_rfl) (waits haft 4 (by kernel_rfl))
      (try dsimp only at t187)
      refine go_in (wanted_all rfl) ?_
      intro K hk
      clear haft hK hLi
      go_simp
      exact hk.out gg x (fun _ _ => rfl) (hS.go (by decide))
    · intro i hi; exact Or.inl (fun _ _ _ => rfl)
    refine' LinAll.cons _ ?_ ?_ ?_
    rotate_left 1
    · intro gg L a x hLi haft hS hK
      have t0 := (hK.old 0 (by kernel_rfl)).trans o0
      have tg := hK.new 5 0 _ 188 _ rfl rfl rfl (by kernel_rfl) (waits haft 5 (by kernel_rfl))
      (try dsimp only at t0)
      refine go_in (wanted_at rfl rfl rfl tg rfl) ?_
      intro K hk
      clear haft hK tg hLi
      go_simp
      exact hk.out gg x (fun _ _ => rfl) (hS.go (by decide))
    · intro i hi; exact Or.inl (fun _ _ _ => rfl)
    refine' LinAll.cons _ ?_ ?_ ?_
    rotate_left 1
    · intro gg L a x hLi haft hS hK
      have t189 := hK.new 6 0 _ 189 _ rfl rfl rfl (by kernel_rfl) (waits haft 6 (by kernel_rfl))
      have tg := hK.new 5 1 _ 188 _ rfl rfl rfl (by kernel_rfl) (waits haft 5 (by kernel_rfl))
      (try dsimp only at t189)
      refine go_in (wanted_at rfl rfl rfl tg rfl) ?_
      intro K hk
      clear haft hK tg hLi
      go_simp
      exact hk.out gg x (fun _ _ => rfl) (hS.go (by decide))
    · intro i hi; exact Or.inl (fun _ _ _ => rfl)
    refine' LinAll.cons _ ?_ ?_ ?_
    rotate_left 1
    · intro gg L a x hLi haft hS hK
      have t190 := hK.new 7 0 _ 190 _ rfl rfl rfl (by kernel_rfl) (waits haft 7 (by kernel_rfl))
      have tg := hK.new 5 2 _ 188 _ rfl rfl rfl (by kernel_rfl) (waits haft 5 (by kernel_rfl))
      (try dsimp only at t190)
      refine go_in (wanted_at rfl rfl rfl tg rfl) ?_
      intro K hk
      clear haft hK tg hLi
      go_simp
      exact hk.out gg x (fun _ _ => rfl) (hS.go (by decide))
    · intro i hi; exact Or.inl (fun _ _ _ => rfl)
    refine' LinAll.cons _ ?_ ?_ ?_
    rotate_left 1
    · intro gg L a x hLi haft hS hK
      have t191 := hK.new 8 0 _ 191 _ rfl rfl rfl (by kernel_rfl) (waits haft 8 (by kernel_rfl))
      have tg := hK.new 5 3 _ 188 _ rfl rfl rfl (by kernel_rfl) (waits haft 5 (by kernel_rfl))
      (try dsimp only at t191)
      have h18 : L 18 = false := off_b (fun e => (waits (hK.cl 18 _ rfl e) 9 (by kernel_rfl))) hLi
      have hx := hS.a h18
      have cX : x.cell? ⟨wb, 0, none⟩ = some (.pointer (some ⟨g, 0, none⟩)) := by rw [hx]; exact n0
      clear hx h18
      refine go_in (wanted_at rfl rfl rfl tg rfl) ?_
      intro K hk
      clear haft hK tg hLi
      go_simp
      exact hk.out gg x (fun _ _ => rfl) (hS.go (by decide))
    · intro i hi; exact Or.inl (fun _ _ _ => rfl)
    refine' LinAll.cons _ ?_ ?_ ?_
    rotate_left 1
    · intro gg L a x hLi haft hS hK
      have t0 := (hK.old 0 (by kernel_rfl)).trans o0
      have tg := hK.new 5 4 _ 188 _ rfl rfl rfl (by kernel_rfl) (waits haft 5 (by kernel_rfl))
      (try dsimp only at t0)
      refine go_in (wanted_at rfl rfl rfl tg rfl) ?_
      intro K hk
      clear haft hK tg hLi
      go_simp
      exact hk.out gg x (fun _ _ => rfl) (hS.go (by decide))
    · intro i hi; exact Or.inl (fun _ _ _ => rfl)
    refine' LinAll.cons _ ?_ ?_ ?_
    rotate_left 1
    · intro gg L a x hLi haft hS hK
      have t193 := hK.new 10 0 _ 193 _ rfl rfl rfl (by kernel_rfl) (waits haft 10 (by kernel_rfl))
      have tg := hK.new 5 5 _ 188 _ rfl rfl rfl (by kernel_rfl) (waits haft 5 (by kernel_rfl))
      (try dsimp only at t193)
      refine go_in (wanted_at rfl rfl rfl tg rfl) ?_
      intro K hk
      clear haft hK tg hLi
      go_simp
      exact hk.out gg x (fun _ _ => rfl) (hS.go (by decide))
    · intro i hi; exact Or.inl (fun _ _ _ => rfl)
    refine' LinAll.cons _ ?_ ?_ ?_
    rotate_left 1
    · intro gg L a x hLi haft hS hK
      have t194 := hK.new 11 0 _ 194 _ rfl rfl rfl (by kernel_rfl) (waits haft 11 (by kernel_rfl))
      have tg := hK.new 5 6 _ 188 _ rfl rfl rfl (by kernel_rfl) (waits haft 5 (by kernel_rfl))
      (try dsimp only at t194)
      refine go_in (wanted_at rfl rfl rfl tg rfl) ?_
      intro K hk
      clear haft hK tg hLi
      go_simp
      exact hk.out gg x (fun _ _ => rfl) (hS.go (by decide))
    · intro i hi; exact Or.inl (fun _ _ _ => rfl)
    refine' LinAll.cons _ ?_ ?_ ?_
    rotate_left 1
    · intro gg L a x hLi haft hS hK
      have t195 := hK.new 12 0 _ 195 _ rfl rfl rfl (by kernel_rfl) (waits haft 12 (by kernel_rfl))
      have tg := hK.new 5 7 _ 188 _ rfl rfl rfl (by kernel_rfl) (waits haft 5 (by kernel_rfl))
      (try dsimp only at t195)
      have h18 : L 18 = false := off_b (fun e => (waits (hK.cl 15 _ rfl (waits (hK.cl 16 _ rfl (waits (hK.cl 17 _ rfl (waits (hK.cl 18 _ rfl e) 17 (by kernel_rfl))) 16 (by kernel_rfl))) 15 (by kernel_rfl))) 13 (by kernel_rfl))) hLi
      have hx := hS.a h18
      have cX : x.cell? ⟨wb, 3, none⟩ = some (.slice (some ⟨rl, 0, none⟩) H.length cl) := by rw [hx]; exact n3
      clear hx h18
      refine go_in (wanted_at rfl rfl rfl tg rfl) ?_
      intro K hk
      clear haft hK tg hLi
      go_simp
      exact hk.out gg x (fun _ _ => rfl) (hS.go (by decide))
    · intro i hi; exact Or.inl (fun _ _ _ => rfl)
    refine' LinAll.cons _ ?_ ?_ ?_
    rotate_left 1
    · intro gg L a x hLi haft hS hK
      have t13 := (hK.old 13 (by kernel_rfl)).trans o13
      have tg := hK.new 5 8 _ 188 _ rfl rfl rfl (by kernel_rfl) (waits haft 5 (by kernel_rfl))
      (try dsimp only at t13)
      refine go_in (wanted_at rfl rfl rfl tg rfl) ?_
      intro K hk
      clear haft hK tg hLi
      go_simp
      exact hk.out gg x (fun _ _ => rfl) (hS.go (by decide))
    · intro i hi; exact Or.inl (fun _ _ _ => rfl)
    refine' LinAll.cons _ ?_ ?_ ?_
    rotate_left 1
    · intro gg L a x hLi haft hS hK
      have t196 := hK.new 13 1 _ 196 _ rfl rfl rfl (by kernel_rfl) (waits haft 13 (by kernel_rfl))
      have t197 := hK.new 14 0 _ 197 _ rfl rfl rfl (by kernel_rfl) (waits haft 14 (by kernel_rfl))
      have tg := hK.new 5 9 _ 188 _ rfl rfl rfl (by kernel_rfl) (waits haft 5 (by kernel_rfl))
      (try dsimp only at t196 t197)
      refine go_in (wanted_at rfl rfl rfl tg rfl) ?_
      intro K hk
      clear haft hK tg hLi
      go_simp
      exact hk.out gg x (fun _ _ => rfl) (hS.go (by decide))
    · intro i hi; exact Or.inl (fun _ _ _ => rfl)
    refine' LinAll.cons _ ?_ ?_ ?_
    rotate_left 1
    · intro gg L a x hLi haft hS hK
      have t198 := hK.new 15 0 _ 198 _ rfl rfl rfl (by kernel_rfl) (waits haft 15 (by kernel_rfl))
      have tg := hK.new 5 10 _ 188 _ rfl rfl rfl (by kernel_rfl) (waits haft 5 (by kernel_rfl))
      (try dsimp only at t198)
      refine go_in (wanted_at rfl rfl rfl tg rfl) ?_
      intro K hk
      clear haft hK tg hLi
      go_simp
      exact hk.out gg x (fun _ _ => rfl) (hS.go (by decide))
    · intro i hi; exact Or.inl (fun _ _ _ => rfl)
    refine' LinAll.cons _ ?_ ?_ ?_
    rotate_left 1
    · intro gg L a x hLi haft hS hK
      have t199 := hK.new 16 0 _ 199 _ rfl rfl rfl (by kernel_rfl) (waits haft 16 (by kernel_rfl))
      have tg := hK.new 5 11 _ 188 _ rfl rfl rfl (by kernel_rfl) (waits haft 5 (by kernel_rfl))
      (try dsimp only at t199)
      have h18 : L 18 = false := off_b (fun e => (waits (hK.cl 18 _ rfl e) 17 (by kernel_rfl))) hLi
      have hx := hS.a h18
      have cX : x.cell? ⟨rl, ka * 2, none⟩ = some (.int .i64 fa) := by rw [hx]; exact nk
      clear hx h18
      refine go_in (wanted_at rfl rfl rfl tg rfl) ?_
      intro K hk
      clear haft hK tg hLi
      go_simp
      exact hk.out gg x (fun _ _ => rfl) (hS.go (by decide))
    · intro i hi; exact Or.inl (fun _ _ _ => rfl)
    refine LinAll.cons (fun _ => .int .i64 0) ?_ ?_ ?_
    · intro gg L a x hLi haft hS hK
      have t192 := hK.new 9 8 _ 192 _ rfl rfl rfl (by kernel_rfl) (waits haft 9 (by kernel_rfl))
      have t200 := hK.new 17 0 _ 200 _ rfl rfl rfl (by kernel_rfl) (waits haft 17 (by kernel_rfl))
      have tg := hK.new 5 12 _ 188 _ rfl rfl rfl (by kernel_rfl) (waits haft 5 (by kernel_rfl))
      (try dsimp only at t192 t200)
      refine go_in (wanted_at rfl rfl rfl tg rfl) ?_
      intro K hk
      have hx := hS.a hLi
      have h23 : L 23 = false := off_b (fun e => hS.d e) hLi
      clear haft hK tg hLi
      subst hx
      go_simp
      refine Calls.mono HUP.out ?_
      rintro e y ⟨rfl, hq⟩
      exact hk.out gg y (fun _ _ => rfl) (hS.called h23 hq)
    · intro i hi; exact Or.inl (fun _ _ _ => rfl)
    refine' LinAll.cons _ ?_ ?_ ?_
    rotate_left 1
    · intro gg L a x hLi haft hS hK
      have t201 := hK.new 18 0 _ 201 _ rfl rfl rfl (by kernel_rfl) (waits haft 18 (by kernel_rfl))
      have tg := hK.new 5 13 _ 188 _ rfl rfl rfl (by kernel_rfl) (waits haft 5 (by kernel_rfl))
      (try dsimp only at t201)
      refine go_in (wanted_at rfl rfl rfl tg rfl) ?_
      intro K hk
      clear haft hK tg hLi
      go_simp
      exact hk.out gg x (fun _ _ => rfl) (hS.go (by decide))
    · intro i hi; exact Or.inl (fun _ _ _ => rfl)
    refine' LinAll.cons _ ?_ ?_ ?_
    rotate_left 1
    · intro gg L a x hLi haft hS hK
      have t188 := hK.new 5 14 _ 188 _ rfl rfl rfl (by kernel_rfl) (waits haft 5 (by kernel_rfl))
      have t202 := hK.new 19 0 _ 202 _ rfl rfl rfl (by kernel_rfl) (waits haft 19 (by kernel_rfl))
      (try dsimp only at t188 t202)
      refine go_in (wanted_all rfl) ?_
      intro K hk
      clear haft hK hLi
      go_simp
      exact hk.out gg x (fun _ _ => rfl) (hS.go (by decide))
    · intro i hi; exact Or.inl (fun _ _ _ => rfl)
    refine' LinAll.cons _ ?_ ?_ ?_
    rotate_left 1
    · intro gg L a x hLi haft hS hK
      have t183 := hK.new 0 20 _ 183 _ rfl rfl rfl (by kernel_rfl) (waits haft 0 (by kernel_rfl))
      (try dsimp only at t183)
      refine go_in (wanted_all rfl) ?_
      intro K hk
      clear haft hK hLi
      go_simp
      exact hk.out gg x (fun _ _ => rfl) (hS.go (by decide))
    · intro i hi; exact Or.inl (fun _ _ _ => rfl)
    refine' LinAll.cons _ ?_ ?_ ?_
    rotate_left 1
    · intro gg L a x hLi haft hS hK
      have t204 := hK.new 21 0 _ 204 _ rfl rfl rfl (by kernel_rfl) (waits haft 21 (by kernel_rfl))
      (try dsimp only at t204)
      refine go_in (wanted_all rfl) ?_
      intro K hk
      clear haft hK hLi
      go_simp
      exact hk.out gg x (fun _ _ => rfl) (hS.go (by decide))
    · intro i hi; exact Or.inl (fun _ _ _ => rfl)
    refine LinAll.cons (fun _ => undef) ?_ ?_ ?_
    · intro gg L a x hLi haft hS hK
      have t203 := hK.new 20 2 _ 203 _ rfl rfl rfl (by kernel_rfl) (waits haft 20 (by kernel_rfl))
      have t205 := hK.new 22 0 _ 205 _ rfl rfl rfl (by kernel_rfl) (waits haft 22 (by kernel_rfl))
      (try dsimp only at t203 t205)
      have h18 := waits haft 18 (by kernel_rfl)
      obtain ⟨F9, hF9⟩ := hS.b h18 hLi
      obtain ⟨-, -, -, cX, -, qf⟩ := hF9.cells
      have fX := qf 4
      have hst := hS.stored h18 hLi
      clear hF9 qf h18
      refine go_in (wanted_all rfl) ?_
      intro K hk
      clear haft hK hLi
      go_simp
      exact hk.out gg _ (fun _ _ => rfl) hst
    · intro i hi; exact Or.inl (fun _ _ _ => rfl)
    refine LinAll.nil fun gy Y5 hS => ?_
    subst ha0
    simp only [Act.put, List.setIfInBounds_toArray, List.set_cons_zero, List.set_cons_succ]
    clear o0 o13
    obtain ⟨y5, ⟨F1, hF5⟩, ey⟩ := hS.c (by kernel_rfl)
    have hF6 := hF5.fine.cut
    rw [← ey] at hF6
    obtain ⟨F2, hF2⟩ : ∃ F2, F2 = Fc Y5 F1 := ⟨_, rfl⟩
    rw [← hF2] at hF6
    have HF2 : Hid (∀ b, F2 b → b < Y5.heap.size) := fun b hb => by rw [hF2] at hb; exact hb.2
    clear hF2
    clear hS ey hF5 n0 n3 n4 nk hrl HUP
    have HF6 : Hid (Hf w0 Y5 F2 wb (.slice (some ⟨rl, 0, none⟩) H.length cl) g n most S pn' H) := hF6
    clear hF6
    obtain ⟨Y6, hY6⟩ : ∃ Y6, Y6 = Y5 := ⟨_, rfl⟩
    rw [← hY6] at HF6 HF2 ⊢
    clear hY6
    obtain ⟨-, -, p3, -, l6, f6⟩ := HF6.out.cells
    replace f6 := f6 3
    obtain ⟨ti, ht0, hz0, hz1, hz2⟩ := info_any infoHeld
    have HI0 : Hid _ := And.intro ht0 (And.intro hz0 (And.intro hz1 hz2))
    have hcl : H.length ≤ cl := Hl.cap HF6.out.hl
    have hkc : ka ≤ cl := by omega
    obtain ⟨k1, hk1n⟩ : ∃ k1, k1 = ka + 1 := ⟨_, rfl⟩
    have eW : IntKind.i64.wrap ((ka : Int) + 1) = (k1 : Int) := by rw [IntKind.wrap_i64]; have := HF6.out.few; omega
    have hk1i : (k1 : Int) ≤ (H.length : Int) := by omega
    obtain ⟨mm, hmm⟩ : ∃ mm, H.length - k1 = mm := ⟨_, rfl⟩
    have hk1N : k1 ≤ H.length := by omega
    have HK1N : Hid (k1 = ka + 1) := hk1n
    clear hk1n
    have hfw := HF6.out.few
    obtain ⟨ao, hao, hao2⟩ : ∃ ao, (if cl = k1 then some (⟨rl, 0, none⟩ : Addr) else some ⟨rl, k1 * 2, none⟩) = some ⟨rl, ao, none⟩ ∧ (cl = k1 ∨ ao = k1 * 2) := by
      by_cases e : cl = k1
      · exact ⟨0, by rw [if_pos e], Or.inl e⟩
      · exact ⟨k1 * 2, by rw [if_neg e], Or.inr rfl⟩
    have HONE : Hid (∀ u, u ∈ hcs H → u.oneCell' = true) := hcs_one fun p hp => by obtain ⟨r, cs, e, -⟩ := (HF6.out.hl.tb p hp).ex; exact ⟨_, _, e⟩
    have HM1 : Hid (∀ u, u ∈ hcs (H.take ka) → u.oneCell' = true) := fun u hu => HONE.out u (hcs_mt hu)
    have HM2 : Hid (∀ u, u ∈ hcs (H.drop k1) → u.oneCell' = true) := fun u hu => HONE.out u (hcs_md hu)
    have HSRC : Hid (∀ x, Below Y6.heap.size Y6 x → ∀ j u, (hcs (H.take ka))[j]? = some u → x.cell? ((⟨rl, 0, none⟩ : Addr).add j) = some u) := fun x hb j u hj => HF6.out.hl.src hb (k := 0) (j := j) (by rw [List.drop_zero]; exact hcs_take hj)
    have HSRC2 : Hid (∀ x, Below Y6.heap.size Y6 x → ∀ j u, (hcs (H.drop k1))[j]? = some u → x.cell? ((⟨rl, ao, none⟩ : Addr).add j) = some u) := fun x hb j u hj => by
      have hjl := (List.getElem?_eq_some_iff.1 hj).1
      rw [hcs_len, List.length_drop] at hjl
      rcases hao2 with e | e
      · omega
      · rw [e]; exact HF6.out.hl.src hb (k := k1) (j := j) hj
    go_upto_region 31 with fail
    refine wp_named fun a0 ha0 => ?_
    have o0 := old_at ha0 (t := 0) rfl
    have o13 := old_at ha0 (t := 13) rfl
    refine wp_region_lin (S := VS Y6 wb ka mm (hcs (H.take ka)) (hcs (H.drop k1))) [7, 15] (fun _ => 0) (by kernel_rfl) (by kernel_rfl) (by rw [← ha0]; kernel_rfl) (VS.start) ?_
    refine' LinAll.cons _ ?_ ?_ ?_
    rotate_left 1
    · intro gg L a x hLi haft hS hK
      have t0 := (hK.old 0 (by kernel_rfl)).trans o0
      (try dsimp only at t0)
      refine go_in (wanted_all rfl) ?_
      intro K hk
      clear haft hK hLi
      go_simp
      exact hk.out gg x (fun _ _ => rfl) (hS.go (by decide))
    · intro i hi; exact Or.inl (fun _ _ _ => rfl)
    refine' LinAll.cons _ ?_ ?_ ?_
    rotate_left 1
    · intro gg L a x hLi haft hS hK
      have t0 := (hK.old 0 (by kernel_rfl)).trans o0
      (try dsimp only at t0)
      refine go_in (wanted_all rfl) ?_
      intro K hk
      clear haft hK hLi
      go_simp
      exact hk.out gg x (fun _ _ => rfl) (hS.go (by decide))
    · intro i hi; exact Or.inl (fun _ _ _ => rfl)
    refine' LinAll.cons _ ?_ ?_ ?_
    rotate_left 1
    · intro gg L a x hLi haft hS hK
      have t207 := hK.new 1 0 _ 207 _ rfl rfl rfl (by kernel_rfl) (waits haft 1 (by kernel_rfl))
      (try dsimp only at t207)
      refine go_in (wanted_all rfl) ?_
      intro K hk
      clear haft hK hLi
      go_simp
      exact hk.out gg x (fun _ _ => rfl) (hS.go (by decide))
    · intro i hi; exact Or.inl (fun _ _ _ => rfl)
    refine' LinAll.cons _ ?_ ?_ ?_
    rotate_left 1
    · intro gg L a x hLi haft hS hK
      have t208 := hK.new 2 0 _ 208 _ rfl rfl rfl (by kernel_rfl) (waits haft 2 (by kernel_rfl))
      (try dsimp only at t208)
      refine go_in (wanted_all rfl) ?_
      intro K hk
      clear haft hK hLi
      go_simp
      exact hk.out gg x (fun _ _ => rfl) (hS.go (by decide))
    · intro i hi; exact Or.inl (fun _ _ _ => rfl)
    refine' LinAll.cons _ ?_ ?_ ?_
    rotate_left 1
    · intro gg L a x hLi haft hS hK
      have t209 := hK.new 3 0 _ 209 _ rfl rfl rfl (by kernel_rfl) (waits haft 3 (by kernel_rfl))
      (try dsimp only at t209)
      have h18 : L 18 = false := off_b (fun e => waits (hK.cl 18 _ rfl e) 4 (by kernel_rfl)) hLi
      have cX : x.cell? ⟨wb, 3, none⟩ = some (.slice (some ⟨rl, 0, none⟩) H.length cl) := bel_cell (hS.a h18) l6 p3
      clear h18
      refine go_in (wanted_all rfl) ?_
      intro K hk
      clear haft hK hLi
      go_simp
      exact hk.out gg x (fun _ _ => rfl) (hS.go (by decide))
    · intro i hi; exact Or.inl (fun _ _ _ => rfl)
    refine' LinAll.cons _ ?_ ?_ ?_
    rotate_left 1
    · intro gg L a x hLi haft hS hK
      have t13 := (hK.old 13 (by kernel_rfl)).trans o13
      (try dsimp only at t13)
      refine go_in (wanted_all rfl) ?_
      intro K hk
      clear haft hK hLi
      go_simp
      exact hk.out gg x (fun _ _ => rfl) (hS.go (by decide))
    · intro i hi; exact Or.inl (fun _ _ _ => rfl)
    refine' LinAll.cons _ ?_ ?_ ?_
    rotate_left 1
    · intro gg L a x hLi haft hS hK
      have t210 := hK.new 4 1 _ 210 _ rfl rfl rfl (by kernel_rfl) (waits haft 4 (by kernel_rfl))
      have t211 := hK.new 5 0 _ 211 _ rfl rfl rfl (by kernel_rfl) (waits haft 5 (by kernel_rfl))
      (try dsimp only at t210 t211)
      refine go_in (wanted_all rfl) ?_
      intro K hk
      clear haft hK hLi
      go_simp
      exact hk.out gg x (fun _ _ => rfl) (hS.go (by decide))
    · intro i hi; exact Or.inl (fun _ _ _ => rfl)
    refine LinAll.cons (fun g => sl ka (g 7)) ?_ ?_ ?_
    · intro gg L a x hLi haft hS hK
      have t212 := hK.new 6 0 _ 212 _ rfl rfl rfl (by kernel_rfl) (waits haft 6 (by kernel_rfl))
      (try dsimp only at t212)
      refine go_in (wanted_all rfl) ?_
      intro K hk
      have h18 : L 18 = false := off_b (fun e => hS.d.2 e |> hS.d.1) hLi
      have hbx := hS.a h18
      clear haft hK
      refine wp_append_at _ (.const (.slice none 0 0)) (.tmp 212) 27 rfl Y6.heap.size 36 ti _ 2 32 underHelds HI0.out.1 HI0.out.2.1 HI0.out.2.2.1 HI0.out.2.2.2 rfl (by decide) (.slice none 0 0) 0 [] rfl (World.ownsRow_nil _ _ _ _) ⟨rl, 0, none⟩ ka cl (hcs (H.take ka)) (eval_tmp t212) (by rw [hcs_len, List.length_take]; omega) (fun j u hj => HSRC.out x hbx j u hj) HM1.out (by unfold maxLen; omega) (by omega) (by have := hbx.size; omega) ?_
      intro v' y hown hgrow hat
      rw [Nat.zero_add, List.nil_append] at hown
      obtain ⟨pc, rfl⟩ := sl_own hown (by omega)
      have hq := hk.out (updG gg 7 pc) y (updG_al (by rfl)) (hS.first hLi hown hgrow)
      dsimp only at hq; rw [updG_eq] at hq; exact hq
    · intro i hi
      simp only [List.mem_cons, List.not_mem_nil, or_false] at hi
      rcases hi with rfl | rfl
      · exact Or.inr (by kernel_rfl)
      · exact Or.inl (fun g g' h => by simp only [h 7 (by decide)])
    refine' LinAll.cons _ ?_ ?_ ?_
    rotate_left 1
    · intro gg L a x hLi haft hS hK
      have t0 := (hK.old 0 (by kernel_rfl)).trans o0
      (try dsimp only at t0)
      refine go_in (wanted_all rfl) ?_
      intro K hk
      clear haft hK hLi
      go_simp
      exact hk.out gg x (fun _ _ => rfl) (hS.go (by decide))
    · intro i hi; exact Or.inl (fun _ _ _ => rfl)
    refine' LinAll.cons _ ?_ ?_ ?_
    rotate_left 1
    · intro gg L a x hLi haft hS hK
      have t214 := hK.new 8 0 _ 214 _ rfl rfl rfl (by kernel_rfl) (waits haft 8 (by kernel_rfl))
      (try dsimp only at t214)
      refine go_in (wanted_all rfl) ?_
      intro K hk
      clear haft hK hLi
      go_simp
      exact hk.out gg x (fun _ _ => rfl) (hS.go (by decide))
    · intro i hi; exact Or.inl (fun _ _ _ => rfl)
    refine' LinAll.cons _ ?_ ?_ ?_
    rotate_left 1
    · intro gg L a x hLi haft hS hK
      have t215 := hK.new 9 0 _ 215 _ rfl rfl rfl (by kernel_rfl) (waits haft 9 (by kernel_rfl))
      (try dsimp only at t215)
      refine go_in (wanted_all rfl) ?_
      intro K hk
      clear haft hK hLi
      go_simp
      exact hk.out gg x (fun _ _ => rfl) (hS.go (by decide))
    · intro i hi; exact Or.inl (fun _ _ _ => rfl)
    refine' LinAll.cons _ ?_ ?_ ?_
    rotate_left 1
    · intro gg L a x hLi haft hS hK
      have t216 := hK.new 10 0 _ 216 _ rfl rfl rfl (by kernel_rfl) (waits haft 10 (by kernel_rfl))
      (try dsimp only at t216)
      have h18 : L 18 = false := off_b (fun e => waits (hK.cl 18 _ rfl e) 11 (by kernel_rfl)) hLi
      have cX : x.cell? ⟨wb, 3, none⟩ = some (.slice (some ⟨rl, 0, none⟩) H.length cl) := bel_cell (hS.a h18) l6 p3
      clear h18
      refine go_in (wanted_all rfl) ?_
      intro K hk
      clear haft hK hLi
      go_simp
      exact hk.out gg x (fun _ _ => rfl) (hS.go (by decide))
    · intro i hi; exact Or.inl (fun _ _ _ => rfl)
    refine' LinAll.cons _ ?_ ?_ ?_
    rotate_left 1
    · intro gg L a x hLi haft hS hK
      have t13 := (hK.old 13 (by kernel_rfl)).trans o13
      (try dsimp only at t13)
      refine go_in (wanted_all rfl) ?_
      intro K hk
      clear haft hK hLi
      go_simp
      exact hk.out gg x (fun _ _ => rfl) (hS.go (by decide))
    · intro i hi; exact Or.inl (fun _ _ _ => rfl)
    refine' LinAll.cons _ ?_ ?_ ?_
    rotate_left 1
    · intro gg L a x hLi haft hS hK
      have t218 := hK.new 12 0 _ 218 _ rfl rfl rfl (by kernel_rfl) (waits haft 12 (by kernel_rfl))
      (try dsimp only at t218)
      refine go_in (wanted_all rfl) ?_
      intro K hk
      clear haft hK hLi
      go_simp
      exact hk.out gg x (fun _ _ => rfl) (hS.go (by decide))
    · intro i hi; exact Or.inl (fun _ _ _ => rfl)
    refine' LinAll.cons _ ?_ ?_ ?_
    rotate_left 1
    · intro gg L a x hLi haft hS hK
      have t217 := hK.new 11 2 _ 217 _ rfl rfl rfl (by kernel_rfl) (waits haft 11 (by kernel_rfl))
      have t219 := hK.new 13 0 _ 219 _ rfl rfl rfl (by kernel_rfl) (waits haft 13 (by kernel_rfl))
      (try dsimp only at t217 t219)
      refine go_in (wanted_all rfl) ?_
      intro K hk
      clear haft hK hLi
      go_simp
      exact hk.out gg x (fun _ _ => rfl) (hS.go (by decide))
    · intro i hi; exact Or.inl (fun _ _ _ => rfl)
    refine LinAll.cons (fun g => sl (ka + mm) (g 15)) ?_ ?_ ?_
    · intro gg L a x hLi haft hS hK
      have t213 := hK.new 7 7 _ 213 _ rfl rfl rfl (by kernel_rfl) (waits haft 7 (by kernel_rfl))
      have t220 := hK.new 14 0 _ 220 _ rfl rfl rfl (by kernel_rfl) (waits haft 14 (by kernel_rfl))
      (try dsimp only at t213 t220)
      refine go_in (wanted_all rfl) ?_
      intro K hk
      have h7 := waits haft 7 (by kernel_rfl)
      have h18 : L 18 = false := off_b (fun e => hS.d.2 e) hLi
      have hbx := hS.a h18
      have hrow := hS.b h7 hLi
      clear haft hK
      refine wp_append_at _ (.tmp 213) (.tmp 220) 27 rfl Y6.heap.size 36 ti _ 2 32 underHelds HI0.out.1 HI0.out.2.1 HI0.out.2.2.1 HI0.out.2.2.2 rfl (by decide) (sl ka (gg 7)) ka (hcs (H.take ka)) (eval_tmp t213) hrow ⟨rl, ao, none⟩ mm (cl - k1) (hcs (H.drop k1)) (eval_tmp t220) (by rw [hcs_len, List.length_drop]; omega) (fun j u hj => HSRC2.out x hbx j u hj) HM2.out (by unfold maxLen; omega) (by omega) (by have := hbx.size; omega) ?_
      intro v' y hown hgrow hat
      obtain ⟨pc, rfl⟩ := sl_own hown (by omega)
      have hq := hk.out (updG gg 15 pc) y (updG_al (by rfl)) (hS.second h7 hLi hown hgrow)
      dsimp only at hq; rw [updG_eq] at hq; exact hq
    · intro i hi
      simp only [List.mem_cons, List.not_mem_nil, or_false] at hi
      rcases hi with rfl | rfl
      · exact Or.inl (fun g g' h => by simp only [h 15 (by decide)])
      · exact Or.inr (by kernel_rfl)
    refine' LinAll.cons _ ?_ ?_ ?_
    rotate_left 1
    · intro gg L a x hLi haft hS hK
      have t206 := hK.new 0 15 _ 206 _ rfl rfl rfl (by kernel_rfl) (waits haft 0 (by kernel_rfl))
      (try dsimp only at t206)
      refine go_in (wanted_all rfl) ?_
      intro K hk
      clear haft hK hLi
      go_simp
      exact hk.out gg x (fun _ _ => rfl) (hS.go (by decide))
    · intro i hi; exact Or.inl (fun _ _ _ => rfl)
    refine' LinAll.cons _ ?_ ?_ ?_
    rotate_left 1
    · intro gg L a x hLi haft hS hK
      have t222 := hK.new 16 0 _ 222 _ rfl rfl rfl (by kernel_rfl) (waits haft 16 (by kernel_rfl))
      (try dsimp only at t222)
      refine go_in (wanted_all rfl) ?_
      intro K hk
      clear haft hK hLi
      go_simp
      exact hk.out gg x (fun _ _ => rfl) (hS.go (by decide))
    · intro i hi; exact Or.inl (fun _ _ _ => rfl)
    refine LinAll.cons (fun _ => undef) ?_ ?_ ?_
    · intro gg L a x hLi haft hS hK
      have t221 := hK.new 15 2 _ 221 _ rfl rfl rfl (by kernel_rfl) (waits haft 15 (by kernel_rfl))
      have t223 := hK.new 17 0 _ 223 _ rfl rfl rfl (by kernel_rfl) (waits haft 17 (by kernel_rfl))
      (try dsimp only at t221 t223)
      refine go_in (wanted_all rfl) ?_
      intro K hk
      have h15 := waits haft 15 (by kernel_rfl)
      have hbx := hS.a hLi
      have cX : x.cell? ⟨wb, 3, none⟩ = some (.slice (some ⟨rl, 0, none⟩) H.length cl) := bel_cell hbx l6 p3
      have fX : x.frozen? ⟨wb, 3, none⟩ = false := (hbx.frozen (p := ⟨wb, 3, none⟩) l6).trans f6
      have hst := hS.third h15 hLi
      clear haft hK hLi
      unfold sl at t221
      go_simp
      exact hk.out gg _ (fun _ _ => rfl) hst
    · intro i hi; exact Or.inl (fun _ _ _ => rfl)
    refine LinAll.nil fun gz Y7 hS => ?_
    subst ha0
    simp only [Act.put, List.setIfInBounds_toArray, List.set_cons_zero, List.set_cons_succ]
    clear o0 o13
    obtain ⟨y7, hb7, hrow7, ey⟩ := hS.c (by kernel_rfl)
    have hl7 : Hf w0 Y7 F2 wb (sl (ka + mm) (gz 15)) g n most S pn' (outK H ka) := HF6.out.drop hkl HF2.out hb7 (by rw [outK_len hkl, show H.length - 1 = ka + mm by have := HK1N.out; omega, outK, ← HK1N.out, hcs_app]; exact hrow7) ey
    have HL7 : Hid _ := hl7
    clear hl7 hb7 hrow7 ey hS
    go_wp2_with fail
    refine bodyPost_ret (results_none rfl _ _ _) rfl ?_
    exact ⟨rfl, _, _, S, pn', _, HL7.out, HPO.out, ⟨List.prefix_refl _, HFY.out.rm.sp, Nat.le_add_right _ _⟩, by rw [outK_len hkl]; omega⟩
  · have hk1 : decide ((1 : Int) < (ka : Int)) = false := by simp; omega
    go_wp2_with fail
    refine bodyPost_ret (results_none rfl _ _ _) rfl ?_
    exact ⟨rfl, DoR.same HFY.out HPU.out⟩
end Go.Proofs.YtohfjpahdoodgaaGreatDoor
