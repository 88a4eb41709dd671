/- The laws' world: a step. -/
import Derived.Test.YtohfjpahdoodgaaGreatDoorMg25
namespace Go.Proofs.YtohfjpahdoodgaaGreatDoor
open Go.RowKit
set_option linter.unusedSimpArgs false
set_option linter.unusedVariables false

set_option maxRecDepth 20000 in
set_option maxHeartbeats 6400000 in
theorem does_2 {w0 : Wx} {w : World} {F : Nat → Prop} {wb g n most : Nat} {lv : Value} {S : St} {pn : Int → Int} {H : List HT} (h : Hf w0 w F wb lv g n most S pn H) (pu : Pu n S pn H) (hn : n ≤ 7) (hroom : cntF S.ns + 2 ^ n ≤ most + 1) (hfew : H.length ≤ 40) (qa qb qc : Int) :
    Calls Tryz.prog 6 #[.pointer (some ⟨wb, 0, none⟩), .agg #[.int .i64 (2), .int .i64 qa, .int .i64 qb, .int .i64 qc]] w fun e w' => e = .returned (.tuple #[]) ∧ DoR w0 w' wb g n most S H := by
  obtain ⟨ka, hka⟩ : ∃ ka : Nat, (ka : Int) = qa % (H.length : Int) := ⟨(qa % (H.length : Int)).toNat, Int.toNat_of_nonneg (Int.emod_nonneg _ (by have := pu.len; omega))⟩
  obtain ⟨kb, hkb⟩ : ∃ kb : Nat, (kb : Int) = qb % (H.length : Int) := ⟨(qb % (H.length : Int)).toNat, Int.toNat_of_nonneg (Int.emod_nonneg _ (by have := pu.len; omega))⟩
  obtain ⟨kc, hkc⟩ : ∃ kc : Nat, (kc : Int) = qc % (H.length : Int) := ⟨(qc % (H.length : Int)).toNat, Int.toNat_of_nonneg (Int.emod_nonneg _ (by have := pu.len; omega))⟩
  obtain ⟨⟨fa, va, ta⟩, hpa⟩ : ∃ p, H[ka]? = some p := ⟨_, List.getElem?_eq_getElem (by have := pu.len; have := Int.emod_lt_of_pos qa (show (0 : Int) < (H.length : Int) by omega); omega)⟩
  obtain ⟨⟨fb, vb, tb⟩, hpb⟩ : ∃ p, H[kb]? = some p := ⟨_, List.getElem?_eq_getElem (by have := pu.len; have := Int.emod_lt_of_pos qb (show (0 : Int) < (H.length : Int) by omega); omega)⟩
  obtain ⟨⟨fc, vc, tc⟩, hpc⟩ : ∃ p, H[kc]? = some p := ⟨_, List.getElem?_eq_getElem (by have := pu.len; have := Int.emod_lt_of_pos qc (show (0 : Int) < (H.length : Int) by omega); omega)⟩
  obtain ⟨ala, eta⟩ := pu.al _ (List.mem_of_getElem? hpa)
  obtain ⟨alb, etb⟩ := pu.al _ (List.mem_of_getElem? hpb)
  obtain ⟨alc, etc⟩ := pu.al _ (List.mem_of_getElem? hpc)
  dsimp only at ala alb alc eta etb etc
  have HTA : Hid (Tb w F w0.w.heap.size va ta) := h.hl.tb _ (List.mem_of_getElem? hpa)
  have HTB : Hid (Tb w F w0.w.heap.size vb tb) := h.hl.tb _ (List.mem_of_getElem? hpb)
  have HTC : Hid (Tb w F w0.w.heap.size vc tc) := h.hl.tb _ (List.mem_of_getElem? hpc)
  have HALA : Hid (alive S.ns fa) := ala
  have HALB : Hid (alive S.ns fb) := alb
  have HALC : Hid (alive S.ns fc) := alc
  have HETA : Hid (ta = tabV n (fun x => val n S.ns x fa)) := eta
  have HETB : Hid (tb = tabV n (fun x => val n S.ns x fb)) := etb
  have HETC : Hid (tc = tabV n (fun x => val n S.ns x fc)) := etc
  have HAA : Hid (∀ wx, Below w.heap.size w wx → Calls Tryz.prog 7 #[.pointer (some ⟨wb, 0, none⟩), .int .i64 qa] wx fun e w' => e = .returned (.agg #[.int .i64 fa, va]) ∧ Below wx.heap.size wx w') := fun wx hb => at_any (h.below hb) qa hka hpa
  have HAB : Hid (∀ wx, Below w.heap.size w wx → Calls Tryz.prog 7 #[.pointer (some ⟨wb, 0, none⟩), .int .i64 qb] wx fun e w' => e = .returned (.agg #[.int .i64 fb, vb]) ∧ Below wx.heap.size wx w') := fun wx hb => at_any (h.below hb) qb hkb hpb
  have HAC : Hid (∀ wx, Below w.heap.size w wx → Calls Tryz.prog 7 #[.pointer (some ⟨wb, 0, none⟩), .int .i64 qc] wx fun e w' => e = .returned (.agg #[.int .i64 fc, vc]) ∧ Below wx.heap.size wx w') := fun wx hb => at_any (h.below hb) qc hkc hpc
  obtain ⟨ra, la, eva⟩ : ∃ r l, va = .slice (some ⟨r, 0, none⟩) l l := by obtain ⟨r, cs, e, -⟩ := HTA.out.ex; exact ⟨r, _, e⟩
  obtain ⟨rb, lb, evb⟩ : ∃ r l, vb = .slice (some ⟨r, 0, none⟩) l l := by obtain ⟨r, cs, e, -⟩ := HTB.out.ex; exact ⟨r, _, e⟩
  obtain ⟨rc, lc, evc⟩ : ∃ r l, vc = .slice (some ⟨r, 0, none⟩) l l := by obtain ⟨r, cs, e, -⟩ := HTC.out.ex; exact ⟨r, _, e⟩
  subst eva evb evc
  have HF : Hid (Hf w0 w F wb lv g n most S pn H) := h
  have HPU : Hid (Pu n S pn H) := pu
  obtain ⟨W1, hW1⟩ : ∃ W1, W1 = w.alloc (.cells #[.int .i64 (2), .int .i64 qa, .int .i64 qb, .int .i64 qc] 32) := ⟨_, rfl⟩
  have hb1 : Below w.heap.size w W1 := by rw [hW1]; go_grown
  have sbk : W1.heap[w.heap.size]? = some (.cells #[.int .i64 (2), .int .i64 qa, .int .i64 qb, .int .i64 qc] 32 (0, 0)) := by rw [hW1]; exact heap_alloc_new _ _
  have s0 := cell_of sbk 0 rfl
  have s1 := cell_of sbk 1 rfl
  have s2 := cell_of sbk 2 rfl
  have s3 := cell_of sbk 3 rfl
  have hsl := blk_lt sbk
  have HB1 : Hid (Below w.heap.size w W1) := hb1
  have HKA : Hid ((ka : Int) = qa % (H.length : Int)) := hka
  have HPA : Hid (H[ka]? = some (fa, .slice (some ⟨ra, 0, none⟩) la la, ta)) := hpa
  clear hka hkb hkc hpa hpb hpc ala alb alc eta etb etc h pu hb1
  go_enter Tryz.func6, Tryz.ntmps6
  go_upto_region 1 with fail
  rw [← hW1]
  clear hW1
  refine wp_named fun a0 ha0 => ?_
  have o0 := old_at ha0 (t := 0) rfl
  have o3 := old_at ha0 (t := 3) rfl
  refine wp_region_lin (S := DS W1 (fun k => if k = 12 then fa else if k = 13 then fb else fc) (fun k => if k = 12 then .slice (some ⟨ra, 0, none⟩) la la else if k = 13 then .slice (some ⟨rb, 0, none⟩) lb lb else .slice (some ⟨rc, 0, none⟩) lc lc)) [12, 13, 14] (fun _ => 0) (by kernel_rfl) (by kernel_rfl) (by rw [← ha0]; kernel_rfl) (DS.start) ?_
  refine' LinAll.cons _ ?_ ?_ ?_
  rotate_left 1
  · intro gg L a x hLi haft hS hK
    have t0 := (hK.old 0 (by kernel_rfl)).trans o0
    (try dsimp only at t0)
    refine go_in (wanted_all rfl) ?_
    intro K hk
    clear haft hK hLi
    go_simp
    exact hk.out gg x (fun _ _ => rfl) (hS.go (by decide))
  · intro i hi; exact Or.inl (fun _ _ _ => rfl)
  refine' LinAll.cons _ ?_ ?_ ?_
  rotate_left 1
  · intro gg L a x hLi haft hS hK
    have t3 := (hK.old 3 (by kernel_rfl)).trans o3
    (try dsimp only at t3)
    refine go_in (wanted_all rfl) ?_
    intro K hk
    clear haft hK hLi
    go_simp
    exact hk.out gg x (fun _ _ => rfl) (hS.go (by decide))
  · intro i hi; exact Or.inl (fun _ _ _ => rfl)
  refine' LinAll.cons _ ?_ ?_ ?_
  rotate_left 1
  · intro gg L a x hLi haft hS hK
    have t15 := hK.new 1 0 _ 15 _ rfl rfl rfl (by kernel_rfl) (waits haft 1 (by kernel_rfl))
    (try dsimp only at t15)
    have cX : x.cell? ⟨w.heap.size, 1, none⟩ = some (.int .i64 qa) := (hS.bel.cell (p := ⟨w.heap.size, 1, none⟩) hsl).trans s1
    refine go_in (wanted_all rfl) ?_
    intro K hk
    clear haft hK hLi
    go_simp
    exact hk.out gg x (fun _ _ => rfl) (hS.go (by decide))
  · intro i hi; exact Or.inl (fun _ _ _ => rfl)
  refine LinAll.cons (fun _ => .agg #[.int .i64 fa, .slice (some ⟨ra, 0, none⟩) la la]) ?_ ?_ ?_
  · intro gg L a x hLi haft hS hK
    have t14 := hK.new 0 2 _ 14 _ rfl rfl rfl (by kernel_rfl) (waits haft 0 (by kernel_rfl))
    have t16 := hK.new 2 0 _ 16 _ rfl rfl rfl (by kernel_rfl) (waits haft 2 (by kernel_rfl))
    (try dsimp only at t14 t16)
    refine go_in (wanted_all rfl) ?_
    intro K hk
    have hbx := HB1.out.trans (hS.bel.mono HB1.out.size)
    clear haft hK hLi
    go_simp
    refine Calls.mono (HAA.out x hbx) ?_
    rintro e y ⟨rfl, hy⟩
    exact hk.out gg y (fun _ _ => rfl) (hS.called (by decide) hy)
  · intro i hi; exact Or.inl (fun _ _ _ => rfl)
  refine' LinAll.cons _ ?_ ?_ ?_
  rotate_left 1
  · intro gg L a x hLi haft hS hK
    have t0 := (hK.old 0 (by kernel_rfl)).trans o0
    (try dsimp only at t0)
    refine go_in (wanted_all rfl) ?_
    intro K hk
    clear haft hK hLi
    go_simp
    exact hk.out gg x (fun _ _ => rfl) (hS.go (by decide))
  · intro i hi; exact Or.inl (fun _ _ _ => rfl)
  refine' LinAll.cons _ ?_ ?_ ?_
  rotate_left 1
  · intro gg L a x hLi haft hS hK
    have t3 := (hK.old 3 (by kernel_rfl)).trans o3
    (try dsimp only at t3)
    refine go_in (wanted_all rfl) ?_
    intro K hk
    clear haft hK hLi
    go_simp
    exact hk.out gg x (fun _ _ => rfl) (hS.go (by decide))
  · intro i hi; exact Or.inl (fun _ _ _ => rfl)
  refine' LinAll.cons _ ?_ ?_ ?_
  rotate_left 1
  · intro gg L a x hLi haft hS hK
    have t19 := hK.new 5 0 _ 19 _ rfl rfl rfl (by kernel_rfl) (waits haft 5 (by kernel_rfl))
    (try dsimp only at t19)
    have cX : x.cell? ⟨w.heap.size, 2, none⟩ = some (.int .i64 qb) := (hS.bel.cell (p := ⟨w.heap.size, 2, none⟩) hsl).trans s2
    refine go_in (wanted_all rfl) ?_
    intro K hk
    clear haft hK hLi
    go_simp
    exact hk.out gg x (fun _ _ => rfl) (hS.go (by decide))
  · intro i hi; exact Or.inl (fun _ _ _ => rfl)
  refine LinAll.cons (fun _ => .agg #[.int .i64 fb, .slice (some ⟨rb, 0, none⟩) lb lb]) ?_ ?_ ?_
  · intro gg L a x hLi haft hS hK
    have t18 := hK.new 4 2 _ 18 _ rfl rfl rfl (by kernel_rfl) (waits haft 4 (by kernel_rfl))
    have t20 := hK.new 6 0 _ 20 _ rfl rfl rfl (by kernel_rfl) (waits haft 6 (by kernel_rfl))
    (try dsimp only at t18 t20)
    refine go_in (wanted_all rfl) ?_
    intro K hk
    have hbx := HB1.out.trans (hS.bel.mono HB1.out.size)
    clear haft hK hLi
    go_simp
    refine Calls.mono (HAB.out x hbx) ?_
    rintro e y ⟨rfl, hy⟩
    exact hk.out gg y (fun _ _ => rfl) (hS.called (by decide) hy)
  · intro i hi; exact Or.inl (fun _ _ _ => rfl)
  refine' LinAll.cons _ ?_ ?_ ?_
  rotate_left 1
  · intro gg L a x hLi haft hS hK
    have t0 := (hK.old 0 (by kernel_rfl)).trans o0
    (try dsimp only at t0)
    refine go_in (wanted_all rfl) ?_
    intro K hk
    clear haft hK hLi
    go_simp
    exact hk.out gg x (fun _ _ => rfl) (hS.go (by decide))
  · intro i hi; exact Or.inl (fun _ _ _ => rfl)
  refine' LinAll.cons _ ?_ ?_ ?_
  rotate_left 1
  · intro gg L a x hLi haft hS hK
    have t3 := (hK.old 3 (by kernel_rfl)).trans o3
    (try dsimp only at t3)
    refine go_in (wanted_all rfl) ?_
    intro K hk
    clear haft hK hLi
    go_simp
    exact hk.out gg x (fun _ _ => rfl) (hS.go (by decide))
  · intro i hi; exact Or.inl (fun _ _ _ => rfl)
  refine' LinAll.cons _ ?_ ?_ ?_
  rotate_left 1
  · intro gg L a x hLi haft hS hK
    have t23 := hK.new 9 0 _ 23 _ rfl rfl rfl (by kernel_rfl) (waits haft 9 (by kernel_rfl))
    (try dsimp only at t23)
    have cX : x.cell? ⟨w.heap.size, 3, none⟩ = some (.int .i64 qc) := (hS.bel.cell (p := ⟨w.heap.size, 3, none⟩) hsl).trans s3
    refine go_in (wanted_all rfl) ?_
    intro K hk
    clear haft hK hLi
    go_simp
    exact hk.out gg x (fun _ _ => rfl) (hS.go (by decide))
  · intro i hi; exact Or.inl (fun _ _ _ => rfl)
  refine LinAll.cons (fun _ => .agg #[.int .i64 fc, .slice (some ⟨rc, 0, none⟩) lc lc]) ?_ ?_ ?_
  · intro gg L a x hLi haft hS hK
    have t22 := hK.new 8 2 _ 22 _ rfl rfl rfl (by kernel_rfl) (waits haft 8 (by kernel_rfl))
    have t24 := hK.new 10 0 _ 24 _ rfl rfl rfl (by kernel_rfl) (waits haft 10 (by kernel_rfl))
    (try dsimp only at t22 t24)
    refine go_in (wanted_all rfl) ?_
    intro K hk
    have hbx := HB1.out.trans (hS.bel.mono HB1.out.size)
    clear haft hK hLi
    go_simp
    refine Calls.mono (HAC.out x hbx) ?_
    rintro e y ⟨rfl, hy⟩
    exact hk.out gg y (fun _ _ => rfl) (hS.called (by decide) hy)
  · intro i hi; exact Or.inl (fun _ _ _ => rfl)
  refine LinAll.cons (fun g => .pointer (some ⟨g 12, 0, none⟩)) ?_ ?_ ?_
  · intro gg L a x hLi haft hS hK
    refine go_in (wanted_all rfl) ?_
    intro K hk
    have h3 : L 15 = false := off_b (fun e => hS.od 12 (by decide) e) hLi
    clear haft hK
    go_simp
    have hq := hk.out (updG gg 12 x.heap.size) _ (updG_al (by rfl)) (hS.made (k := 12) (by decide) h3 hLi)
    dsimp only at hq; rw [updG_eq] at hq; exact hq
  · intro i hi
    simp only [List.mem_cons, List.not_mem_nil, or_false] at hi
    rcases hi with rfl | rfl | rfl
    · exact Or.inr (by kernel_rfl)
    · exact Or.inl (fun g g' h => by simp only [h 12 (by decide)])
    · exact Or.inl (fun g g' h => by simp only [h 12 (by decide)])
  refine LinAll.cons (fun g => .pointer (some ⟨g 13, 0, none⟩)) ?_ ?_ ?_
  · intro gg L a x hLi haft hS hK
    refine go_in (wanted_all rfl) ?_
    intro K hk
    have h3 : L 16 = false := off_b (fun e => hS.od 13 (by decide) e) hLi
    clear haft hK
    go_simp
    have hq := hk.out (updG gg 13 x.heap.size) _ (updG_al (by rfl)) (hS.made (k := 13) (by decide) h3 hLi)
    dsimp only at hq; rw [updG_eq] at hq; exact hq
  · intro i hi
    simp only [List.mem_cons, List.not_mem_nil, or_false] at hi
    rcases hi with rfl | rfl | rfl
    · exact Or.inl (fun g g' h => by simp only [h 13 (by decide)])
    · exact Or.inr (by kernel_rfl)
    · exact Or.inl (fun g g' h => by simp only [h 13 (by decide)])
  refine LinAll.cons (fun g => .pointer (some ⟨g 14, 0, none⟩)) ?_ ?_ ?_
  · intro gg L a x hLi haft hS hK
    refine go_in (wanted_all rfl) ?_
    intro K hk
    have h3 : L 17 = false := off_b (fun e => hS.od 14 (by decide) e) hLi
    clear haft hK
    go_simp
    have hq := hk.out (updG gg 14 x.heap.size) _ (updG_al (by rfl)) (hS.made (k := 14) (by decide) h3 hLi)
    dsimp only at hq; rw [updG_eq] at hq; exact hq
  · intro i hi
    simp only [List.mem_cons, List.not_mem_nil, or_false] at hi
    rcases hi with rfl | rfl | rfl
    · exact Or.inl (fun g g' h => by simp only [h 14 (by decide)])
    · exact Or.inl (fun g g' h => by simp only [h 14 (by decide)])
    · exact Or.inr (by kernel_rfl)
  refine LinAll.cons (fun _ => undef) ?_ ?_ ?_
  · intro gg L a x hLi haft hS hK
    have t4 := hK.new 12 2 _ 4 _ rfl rfl rfl (by kernel_rfl) (waits haft 12 (by kernel_rfl))
    have t17 := hK.new 3 11 _ 17 _ rfl rfl rfl (by kernel_rfl) (waits haft 3 (by kernel_rfl))
    (try dsimp only at t4 t17)
    have hk1 := waits haft 12 (by kernel_rfl)
    obtain ⟨hl1, hl2⟩ := hS.al 12 (by decide) hk1
    rw [hLi] at hl2
    have cX0 := cell_of hl2 0 rfl
    have cX1 := cell_of hl2 1 rfl
    have fX0 := frz hl2 0
    have fX1 := frz hl2 1
    have hst := hS.stored (k := 12) (by decide) hLi hk1
    clear hl1 hl2 hk1
    refine go_in (wanted_all rfl) ?_
    intro K hk
    clear haft hK hLi
    go_simp
    exact hk.out gg _ (fun _ _ => rfl) hst
  · intro i hi; exact Or.inl (fun _ _ _ => rfl)
  refine LinAll.cons (fun _ => undef) ?_ ?_ ?_
  · intro gg L a x hLi haft hS hK
    have t5 := hK.new 13 2 _ 5 _ rfl rfl rfl (by kernel_rfl) (waits haft 13 (by kernel_rfl))
    have t21 := hK.new 7 8 _ 21 _ rfl rfl rfl (by kernel_rfl) (waits haft 7 (by kernel_rfl))
    (try dsimp only at t5 t21)
    have hk1 := waits haft 13 (by kernel_rfl)
    obtain ⟨hl1, hl2⟩ := hS.al 13 (by decide) hk1
    rw [hLi] at hl2
    have cX0 := cell_of hl2 0 rfl
    have cX1 := cell_of hl2 1 rfl
    have fX0 := frz hl2 0
    have fX1 := frz hl2 1
    have hst := hS.stored (k := 13) (by decide) hLi hk1
    clear hl1 hl2 hk1
    refine go_in (wanted_all rfl) ?_
    intro K hk
    clear haft hK hLi
    go_simp
    exact hk.out gg _ (fun _ _ => rfl) hst
  · intro i hi; exact Or.inl (fun _ _ _ => rfl)
  refine LinAll.cons (fun _ => undef) ?_ ?_ ?_
  · intro gg L a x hLi haft hS hK
    have t6 := hK.new 14 2 _ 6 _ rfl rfl rfl (by kernel_rfl) (waits haft 14 (by kernel_rfl))
    have t25 := hK.new 11 5 _ 25 _ rfl rfl rfl (by kernel_rfl) (waits haft 11 (by kernel_rfl))
    (try dsimp only at t6 t25)
    have hk1 := waits haft 14 (by kernel_rfl)
    obtain ⟨hl1, hl2⟩ := hS.al 14 (by decide) hk1
    rw [hLi] at hl2
    have cX0 := cell_of hl2 0 rfl
    have cX1 := cell_of hl2 1 rfl
    have fX0 := frz hl2 0
    have fX1 := frz hl2 1
    have hst := hS.stored (k := 14) (by decide) hLi hk1
    clear hl1 hl2 hk1
    refine go_in (wanted_all rfl) ?_
    intro K hk
    clear haft hK hLi
    go_simp
    exact hk.out gg _ (fun _ _ => rfl) hst
  · intro i hi; exact Or.inl (fun _ _ _ => rfl)
  refine LinAll.nil fun gx X1 hS => ?_
  subst ha0
  simp only [Act.put, List.setIfInBounds_toArray, List.set_cons_zero, List.set_cons_succ]
  clear o0 o3
  have HB2 : Hid (Below w.heap.size w X1) := HB1.out.trans (hS.bel.mono HB1.out.size)
  obtain ⟨la12, ba⟩ := hS.al 12 (by decide) (by kernel_rfl)
  obtain ⟨la13, bb⟩ := hS.al 13 (by decide) (by kernel_rfl)
  obtain ⟨la14, bc⟩ := hS.al 14 (by decide) (by kernel_rfl)
  rw [if_pos (by kernel_rfl)] at ba bb bc
  replace ba : X1.heap[gx 12]? = some (.cells #[.int .i64 fa, .slice (some ⟨ra, 0, none⟩) la la] 36 (0, 0)) := ba
  replace bb : X1.heap[gx 13]? = some (.cells #[.int .i64 fb, .slice (some ⟨rb, 0, none⟩) lb lb] 36 (0, 0)) := bb
  replace bc : X1.heap[gx 14]? = some (.cells #[.int .i64 fc, .slice (some ⟨rc, 0, none⟩) lc lc] 36 (0, 0)) := bc
  obtain ⟨ga, hga⟩ : ∃ ga, ga = gx 12 := ⟨_, rfl⟩
  obtain ⟨gb, hgb⟩ : ∃ gb, gb = gx 13 := ⟨_, rfl⟩
  obtain ⟨gc, hgc⟩ : ∃ gc, gc = gx 14 := ⟨_, rfl⟩
  rw [← hga] at ba la12 ⊢
  rw [← hgb] at bb la13 ⊢
  rw [← hgc] at bc la14 ⊢
  obtain ⟨sb, hsb⟩ : ∃ sb, sb = w.heap.size := ⟨_, rfl⟩
  have s0x : X1.cell? ⟨sb, 0, none⟩ = some (.int .i64 (2)) := by rw [hsb]; exact (hS.bel.cell (p := ⟨w.heap.size, 0, none⟩) hsl).trans s0
  have s1x : X1.cell? ⟨sb, 1, none⟩ = some (.int .i64 qa) := by rw [hsb]; exact (hS.bel.cell (p := ⟨w.heap.size, 1, none⟩) hsl).trans s1
  have hsx : sb < X1.heap.size := by rw [hsb]; have := hS.bel.size; omega
  have HSB : Hid (sb = w.heap.size) := hsb
  rw [← hsb]
  have pa0 := cell_of ba 0 rfl
  have pa1 := cell_of ba 1 rfl
  have pb0 := cell_of bb 0 rfl
  have pb1 := cell_of bb 1 rfl
  have pc0 := cell_of bc 0 rfl
  have pc1 := cell_of bc 1 rfl
  have lga := blk_lt ba
  have lgb := blk_lt bb
  have lgc := blk_lt bc
  have HLA : Hid (w.heap.size ≤ ga ∧ w.heap.size ≤ gb ∧ w.heap.size ≤ gc) := by have := HB1.out.size; unfold Hid; omega
  clear hga hgb hgc s0 s1 s2 s3 hsl sbk ba bb bc hS la12 la13 la14 hsb
  have HFX : Hid (Hf w0 X1 (Fc w F) wb lv g n most S pn H) := HF.out.cut.below HB2.out
  obtain ⟨m0, m1, m3, m4, lwb, -⟩ := HFX.out.cells
  have HTX : Hid (Tb X1 (Fc w F) w0.w.heap.size (.slice (some ⟨ra, 0, none⟩) la la) ta ∧ Tb X1 (Fc w F) w0.w.heap.size (.slice (some ⟨rb, 0, none⟩) lb lb) tb ∧ Tb X1 (Fc w F) w0.w.heap.size (.slice (some ⟨rc, 0, none⟩) lc lc) tc) := ⟨HTA.out.keep fun k cs e hf => ⟨HB2.out.block k (blk_lt e), fun q => hf q.1⟩, HTB.out.keep fun k cs e hf => ⟨HB2.out.block k (blk_lt e), fun q => hf q.1⟩, HTC.out.keep fun k cs e hf => ⟨HB2.out.block k (blk_lt e), fun q => hf q.1⟩⟩
  clear HAA HAB HAC HTA HTB HTC HB1
  have hNO : Hid _ := tconst_any hn false X1
  go_wp2_with fail
  refine Calls.mono hNO.out ?_
  rintro e x1 ⟨u0, rfl, hu0⟩
  obtain ⟨r0, eu0⟩ := hu0.ex
  rw [tabV_len'] at eu0
  subst eu0
  have hB3 := hu0.bel
  have HT0 : Hid (Tb x1 (Fc w F) w0.w.heap.size (.slice (some ⟨r0, 0, none⟩) (N2 n) (N2 n)) (tabV n fun _ => false)) := Tn.tb hu0 (by have := HFX.out.bel.size; omega) (fun k hk => Nat.lt_of_lt_of_le hk.2 HB2.out.size)
  have m1' := bel_cell hB3 lwb m1
  have HB3 : Hid _ := hB3
  have lwb3 := Nat.lt_of_lt_of_le lwb hB3.size
  clear hu0 hB3 hNO
  have hYS : Hid _ := tconst_any hn true x1
  go_wp2_with fail
  refine Calls.mono hYS.out ?_
  rintro e X3 ⟨u1, rfl, hu1⟩
  obtain ⟨r1, eu1⟩ := hu1.ex
  rw [tabV_len'] at eu1
  subst eu1
  have hB4 := hu1.bel
  have HT1 : Hid (Tb X3 (Fc w F) w0.w.heap.size (.slice (some ⟨r1, 0, none⟩) (N2 n) (N2 n)) (tabV n fun _ => true)) := Tn.tb hu1 (by have := HFX.out.bel.size; have := HB3.out.size; omega) (fun k hk => Nat.lt_of_lt_of_le hk.2 (Nat.le_trans HB2.out.size HB3.out.size))
  have hB5 : Below X1.heap.size X1 X3 := HB3.out.trans (hB4.mono HB3.out.size)
  have HT0' : Hid (Tb X3 (Fc w F) w0.w.heap.size (.slice (some ⟨r0, 0, none⟩) (N2 n) (N2 n)) (tabV n fun _ => false)) := HT0.out.keep fun k cs e hf => ⟨hB4.block k (blk_lt e), hf⟩
  have HTX' : Hid (Tb X3 (Fc w F) w0.w.heap.size (.slice (some ⟨ra, 0, none⟩) la la) ta ∧ Tb X3 (Fc w F) w0.w.heap.size (.slice (some ⟨rb, 0, none⟩) lb lb) tb ∧ Tb X3 (Fc w F) w0.w.heap.size (.slice (some ⟨rc, 0, none⟩) lc lc) tc) := ⟨HTX.out.1.keep fun k cs e hf => ⟨hB5.block k (blk_lt e), hf⟩, HTX.out.2.1.keep fun k cs e hf => ⟨hB5.block k (blk_lt e), hf⟩, HTX.out.2.2.keep fun k cs e hf => ⟨hB5.block k (blk_lt e), hf⟩⟩
  have HF3 : Hid (Hf w0 X3 (Fc w F) wb lv g n most S pn H) := HFX.out.below hB5
  replace m0 := bel_cell hB5 lwb m0
  replace m1 := bel_cell hB5 lwb m1
  replace pa0 := bel_cell hB5 lga pa0
  replace pb0 := bel_cell hB5 lgb pb0
  replace pc0 := bel_cell hB5 lgc pc0
  replace pa1 := bel_cell hB5 lga pa1
  replace pb1 := bel_cell hB5 lgb pb1
  replace pc1 := bel_cell hB5 lgc pc1
  replace s0x := bel_cell hB5 hsx s0x
  replace s1x := bel_cell hB5 hsx s1x
  replace lwb := Nat.lt_of_lt_of_le lwb hB5.size
  replace lga := Nat.lt_of_lt_of_le lga hB5.size
  replace lgb := Nat.lt_of_lt_of_le lgb hB5.size
  replace lgc := Nat.lt_of_lt_of_le lgc hB5.size
  replace hsx := Nat.lt_of_lt_of_le hsx hB5.size
  have HB5 : Hid (Below X1.heap.size X1 X3) := hB5
  clear m3 m4 m1' lwb3 hYS HT0 HTX HFX HB3 hu1 hB4 hB5
  have HOP : Hid _ := not_room (w := X3.drew) (F := Fc w F) ⟨HF3.out.rm.gr.below (Below.refl _ _).drew, HF3.out.rm.sp, HF3.out.rm.ps⟩ fa HALA.out hroom
  go_upto_region 16 with fail
  refine wp_named fun a0 ha0 => ?_
  have o0 := old_at ha0 (t := 0) rfl
  have o4 := old_at ha0 (t := 4) rfl
  refine wp_region_lin (S := OS X3 6 (OQ X3 (Fc w F) g n most S pn (fun x => !val n S.ns x fa))) [6] (fun _ => 0) (by kernel_rfl) (by kernel_rfl) (by rw [← ha0]; kernel_rfl) (OS.start) ?_
  refine' LinAll.cons _ ?_ ?_ ?_
  rotate_left 1
  · intro gg L a x hLi haft hS hK
    have t0 := (hK.old 0 (by kernel_rfl)).trans o0
    (try dsimp only at t0)
    refine go_in (wanted_all rfl) ?_
    intro K hk
    clear haft hK hLi
    go_simp
    exact hk.out gg x (fun _ _ => rfl) (hS.go (by decide))
  · intro i hi; exact Or.inl (fun _ _ _ => rfl)
  refine' LinAll.cons _ ?_ ?_ ?_
  rotate_left 1
  · intro gg L a x hLi haft hS hK
    have t93 := hK.new 0 0 _ 93 _ rfl rfl rfl (by kernel_rfl) (waits haft 0 (by kernel_rfl))
    (try dsimp only at t93)
    refine go_in (wanted_all rfl) ?_
    intro K hk
    clear haft hK hLi
    go_simp
    exact hk.out gg x (fun _ _ => rfl) (hS.go (by decide))
  · intro i hi; exact Or.inl (fun _ _ _ => rfl)
  refine' LinAll.cons _ ?_ ?_ ?_
  rotate_left 1
  · intro gg L a x hLi haft hS hK
    have t94 := hK.new 1 0 _ 94 _ rfl rfl rfl (by kernel_rfl) (waits haft 1 (by kernel_rfl))
    (try dsimp only at t94)
    refine go_in (wanted_all rfl) ?_
    intro K hk
    clear haft hK hLi
    go_simp
    exact hk.out gg x (fun _ _ => rfl) (hS.go (by decide))
  · intro i hi; exact Or.inl (fun _ _ _ => rfl)
  refine' LinAll.cons _ ?_ ?_ ?_
  rotate_left 1
  · intro gg L a x hLi haft hS hK
    have t95 := hK.new 2 0 _ 95 _ rfl rfl rfl (by kernel_rfl) (waits haft 2 (by kernel_rfl))
    (try dsimp only at t95)
    have hc0 : L 6 = false := off_b (fun e => waits (hK.cl 6 _ rfl e) 3 (by kernel_rfl)) hLi
    have hx := hS.a hc0
    have cX : x.cell? ⟨wb, 0, none⟩ = some (.pointer (some ⟨g, 0, none⟩)) := by rw [hx]; exact m0
    clear hx hc0
    refine go_in (wanted_all rfl) ?_
    intro K hk
    clear haft hK hLi
    go_simp
    exact hk.out gg x (fun _ _ => rfl) (hS.go (by decide))
  · intro i hi; exact Or.inl (fun _ _ _ => rfl)
  refine' LinAll.cons _ ?_ ?_ ?_
  rotate_left 1
  · intro gg L a x hLi haft hS hK
    have t4 := (hK.old 4 (by kernel_rfl)).trans o4
    (try dsimp only at t4)
    refine go_in (wanted_all rfl) ?_
    intro K hk
    clear haft hK hLi
    go_simp
    exact hk.out gg x (fun _ _ => rfl) (hS.go (by decide))
  · intro i hi; exact Or.inl (fun _ _ _ => rfl)
  refine' LinAll.cons _ ?_ ?_ ?_
  rotate_left 1
  · intro gg L a x hLi haft hS hK
    have t97 := hK.new 4 0 _ 97 _ rfl rfl rfl (by kernel_rfl) (waits haft 4 (by kernel_rfl))
    (try dsimp only at t97)
    have hc0 : L 6 = false := off_b (fun e => waits (hK.cl 6 _ rfl e) 5 (by kernel_rfl)) hLi
    have hx := hS.a hc0
    have cX : x.cell? ⟨ga, 0, none⟩ = some (.int .i64 fa) := by rw [hx]; exact pa0
    clear hx hc0
    refine go_in (wanted_all rfl) ?_
    intro K hk
    clear haft hK hLi
    go_simp
    exact hk.out gg x (fun _ _ => rfl) (hS.go (by decide))
  · intro i hi; exact Or.inl (fun _ _ _ => rfl)
  refine LinAll.cons (fun g => .tuple #[.int .i64 (g 6 : Int), .int .i64 0]) ?_ ?_ ?_
  · intro gg L a x hLi haft hS hK
    have t96 := hK.new 3 2 _ 96 _ rfl rfl rfl (by kernel_rfl) (waits haft 3 (by kernel_rfl))
    have t98 := hK.new 5 0 _ 98 _ rfl rfl rfl (by kernel_rfl) (waits haft 5 (by kernel_rfl))
    (try dsimp only at t96 t98)
    have hx := hS.a hLi
    refine go_in (wanted_all rfl) ?_
    intro K hk
    clear haft hK hLi
    subst hx
    go_simp
    refine Calls.mono HOP.out ?_
    rintro e y hy
    obtain ⟨f, rfl, hoq⟩ := og_oq (by first | exact Nat.le_refl _ | exact Nat.one_le_two_pow) hy
    have hq := hk.out (updG gg 6 f) y (updG_al (by rfl)) (OS.called hoq)
    dsimp only at hq; rw [updG_eq] at hq; exact hq
  · intro i hi
    simp only [List.mem_cons, List.not_mem_nil, or_false] at hi
    rcases hi with rfl
    · exact Or.inr (by kernel_rfl)
  refine' LinAll.cons _ ?_ ?_ ?_
  rotate_left 1
  · intro gg L a x hLi haft hS hK
    have t99 := hK.new 6 0 _ 99 _ rfl rfl rfl (by kernel_rfl) (waits haft 6 (by kernel_rfl))
    (try dsimp only at t99)
    refine go_in (wanted_all rfl) ?_
    intro K hk
    clear haft hK hLi
    go_simp
    exact hk.out gg x (fun _ _ => rfl) (hS.go (by decide))
  · intro i hi
    simp only [List.mem_cons, List.not_mem_nil, or_false] at hi
    rcases hi with rfl
    · exact Or.inr (by kernel_rfl)
  refine' LinAll.cons _ ?_ ?_ ?_
  rotate_left 1
  · intro gg L a x hLi haft hS hK
    have t92 := hK.new 7 0 _ 92 _ rfl rfl rfl (by kernel_rfl) (waits haft 7 (by kernel_rfl))
    (try dsimp only at t92)
    refine go_in (wanted_all rfl) ?_
    intro K hk
    clear haft hK hLi
    go_simp
    exact hk.out gg x (fun _ _ => rfl) (hS.go (by decide))
  · intro i hi
    simp only [List.mem_cons, List.not_mem_nil, or_false] at hi
    rcases hi with rfl
    · exact Or.inr (by kernel_rfl)
  refine' LinAll.cons _ ?_ ?_ ?_
  rotate_left 1
  · intro gg L a x hLi haft hS hK
    have t92 := hK.new 7 1 _ 92 _ rfl rfl rfl (by kernel_rfl) (waits haft 7 (by kernel_rfl))
    (try dsimp only at t92)
    refine go_in (wanted_all rfl) ?_
    intro K hk
    clear haft hK hLi
    go_simp
    exact hk.out gg x (fun _ _ => rfl) (hS.go (by decide))
  · intro i hi
    simp only [List.mem_cons, List.not_mem_nil, or_false] at hi
    rcases hi with rfl
    · exact Or.inr (by kernel_rfl)
  refine' LinAll.cons _ ?_ ?_ ?_
  rotate_left 1
  · intro gg L a x hLi haft hS hK
    have t100 := hK.new 8 1 _ 100 _ rfl rfl rfl (by kernel_rfl) (waits haft 8 (by kernel_rfl))
    (try dsimp only at t100)
    refine go_in (wanted_all rfl) ?_
    intro K hk
    clear haft hK hLi
    go_simp
    exact hk.out gg x (fun _ _ => rfl) (hS.go (by decide))
  · intro i hi
    simp only [List.mem_cons, List.not_mem_nil, or_false] at hi
    rcases hi with rfl
    · exact Or.inr (by kernel_rfl)
  refine' LinAll.cons _ ?_ ?_ ?_
  rotate_left 1
  · intro gg L a x hLi haft hS hK
    have t101 := hK.new 9 1 _ 101 _ rfl rfl rfl (by kernel_rfl) (waits haft 9 (by kernel_rfl))
    (try dsimp only at t101)
    refine go_in (wanted_all rfl) ?_
    intro K hk
    clear haft hK hLi
    go_simp
    exact hk.out gg x (fun _ _ => rfl) (hS.go (by decide))
  · intro i hi
    simp only [List.mem_cons, List.not_mem_nil, or_false] at hi
    rcases hi with rfl
    · exact Or.inr (by kernel_rfl)
  refine LinAll.nil fun gy Y1 hS => ?_
  subst ha0
  simp only [Act.put, List.setIfInBounds_toArray, List.set_cons_zero, List.set_cons_succ]
  clear o0 o4
  have hQ := hS.b (by kernel_rfl)
  obtain ⟨fr, hfr⟩ : ∃ fr, fr = gy 6 := ⟨_, rfl⟩
  rw [← hfr] at hQ ⊢
  clear hS hfr
  obtain ⟨S', F1, hrm, hch, hgw, hal, hval⟩ := hQ
  have HGW : Hid (Gw n S S' (2 ^ n)) := hgw
  have HAL : Hid (alive S'.ns (fr : Int)) := hal
  have HVAL : Hid (∀ x, val n S'.ns x (fr : Int) = (fun x => !val n S.ns x fa) x) := hval
  have HF4 : Hid (Hf w0 Y1 F1 wb lv g n most S' pn H) := HF3.out.ch hch hrm
  have HCH : Hid (Ch X3 Y1 (Fc w F) F1) := hch
  have kp : ∀ k, k < X3.heap.size → w.heap.size ≤ k → Y1.heap[k]? = X3.heap[k]? := fun k hk hw => HCH.out.block k hk (fun q => by have := q.2; omega)
  replace pa0 := (World.cell?_of_block (a := ⟨ga, 0, none⟩) (kp ga lga HLA.out.1)).trans pa0
  replace pa1 := (World.cell?_of_block (a := ⟨ga, 1, none⟩) (kp ga lga HLA.out.1)).trans pa1
  replace pb0 := (World.cell?_of_block (a := ⟨gb, 0, none⟩) (kp gb lgb HLA.out.2.1)).trans pb0
  replace pb1 := (World.cell?_of_block (a := ⟨gb, 1, none⟩) (kp gb lgb HLA.out.2.1)).trans pb1
  replace pc0 := (World.cell?_of_block (a := ⟨gc, 0, none⟩) (kp gc lgc HLA.out.2.2)).trans pc0
  replace pc1 := (World.cell?_of_block (a := ⟨gc, 1, none⟩) (kp gc lgc HLA.out.2.2)).trans pc1
  replace s0x := (World.cell?_of_block (a := ⟨sb, 0, none⟩) (kp sb hsx (by rw [HSB.out]; exact Nat.le_refl _))).trans s0x
  replace s1x := (World.cell?_of_block (a := ⟨sb, 1, none⟩) (kp sb hsx (by rw [HSB.out]; exact Nat.le_refl _))).trans s1x
  replace lwb := Nat.lt_of_lt_of_le lwb hch.size
  replace lga := Nat.lt_of_lt_of_le lga hch.size
  replace lgb := Nat.lt_of_lt_of_le lgb hch.size
  replace lgc := Nat.lt_of_lt_of_le lgc hch.size
  replace hsx := Nat.lt_of_lt_of_le hsx hch.size
  have HTA : Hid (Tb Y1 F1 w0.w.heap.size (.slice (some ⟨ra, 0, none⟩) la la) ta) := HTX'.out.1.keep fun k cs e hf => ⟨HCH.out.block k (blk_lt e) hf, HCH.out.old (blk_lt e) hf⟩
  have HTB : Hid (Tb Y1 F1 w0.w.heap.size (.slice (some ⟨rb, 0, none⟩) lb lb) tb) := HTX'.out.2.1.keep fun k cs e hf => ⟨HCH.out.block k (blk_lt e) hf, HCH.out.old (blk_lt e) hf⟩
  have HTC : Hid (Tb Y1 F1 w0.w.heap.size (.slice (some ⟨rc, 0, none⟩) lc lc) tc) := HTX'.out.2.2.keep fun k cs e hf => ⟨HCH.out.block k (blk_lt e) hf, HCH.out.old (blk_lt e) hf⟩
  have HTN : Hid (Tb Y1 F1 w0.w.heap.size (.slice (some ⟨r0, 0, none⟩) (N2 n) (N2 n)) (tabV n fun _ => false)) := HT0'.out.keep fun k cs e hf => ⟨HCH.out.block k (blk_lt e) hf, HCH.out.old (blk_lt e) hf⟩
  have HTY : Hid (Tb Y1 F1 w0.w.heap.size (.slice (some ⟨r1, 0, none⟩) (N2 n) (N2 n)) (tabV n fun _ => true)) := HT1.out.keep fun k cs e hf => ⟨HCH.out.block k (blk_lt e) hf, HCH.out.old (blk_lt e) hf⟩
  obtain ⟨m0', m1', -, -, -, -⟩ := HF4.out.cells
  clear hrm hch hgw hal hval kp HT0' HT1 HTX' HF3 HOP m0 m1
  have HI : Hid _ := tite_any HTA.out.bz HTN.out.bz HTY.out.bz (by rw [HETA.out, tabV_len]; exact (n2_le hn).1) (by rw [HETA.out, tabV_len, tabV_len]) (by rw [HETA.out, tabV_len, tabV_len])
  go_wp2_with fail
  refine Calls.mono HI.out ?_
  rintro e Y2 ⟨u, rfl, hu⟩
  rw [HETA.out, tabV_ite, tabV_congr (B := (fun x => !val n S.ns x fa)) (fun x => by cases val n S.ns x fa <;> rfl)] at hu
  clear HI
  have HU : Hid (Tb Y2 (Fc Y1 F1) w0.w.heap.size u (tabV n (fun x => !val n S.ns x fa))) := Tn.tb hu HF4.out.bel.size (fun k hk => hk.2)
  have HF5 : Hid (Hf w0 Y2 (Fc Y1 F1) wb lv g n most S' pn H) := HF4.out.cut.below hu.bel
  have HB6 : Hid (Below Y1.heap.size Y1 Y2) := hu.bel
  have HPG : Hid (Pu n S' (if alive S'.ns (fr : Int) ∧ 2 ≤ (fr : Int) then pinA pn (fr : Int) (pn (fr : Int) + 1) else pn) (H ++ [((fr : Int), u, tabV n (fun x => !val n S.ns x fa))])) := Pu.grow HF.out.rm.good HPU.out HGW.out.pre HAL.out HVAL.out
  have hP := pin_any HF5.out.rm.gr (fr : Int) (by have := HPU.out.few (fr : Int); omega)
  obtain ⟨pn', hpn'⟩ : ∃ pn', pn' = (if alive S'.ns (fr : Int) ∧ 2 ≤ (fr : Int) then pinA pn (fr : Int) (pn (fr : Int) + 1) else pn) := ⟨_, rfl⟩
  rw [← hpn'] at HPG hP
  rw [if_pos HAL.out] at hP
  have HP : Hid _ := hP
  obtain ⟨lu, eu⟩ : ∃ r l, u = .slice (some ⟨r, 0, none⟩) l l := by obtain ⟨r, e⟩ := hu.ex; exact ⟨r, _, e⟩
  obtain ⟨nu, rfl⟩ := eu
  obtain ⟨m0, m1, -, m4, -, -⟩ := HF5.out.cells
  clear hpn' hP hu m0' m1' pa0 pa1 pb0 pb1 pc0 pc1 s0x s1x HTA HTB HTC HTN HTY lwb lga lgb lgc hsx
  go_wp2_with fail
  refine Calls.mono HP.out ?_
  rintro e Y3 ⟨rfl, F3, hg3, hc3⟩
  have HF6 : Hid (Hf w0 Y3 F3 wb lv g n most S' pn' H) := HF5.out.ch hc3 ⟨hg3, HGW.out.sp, HPG.out.ps⟩
  have HU3 : Hid (Tb Y3 F3 w0.w.heap.size (.slice (some ⟨lu, 0, none⟩) nu nu) (tabV n (fun x => !val n S.ns x fa))) := HU.out.keep fun k cs e hf => ⟨hc3.block k (blk_lt e) hf, hc3.old (blk_lt e) hf⟩
  obtain ⟨-, -, -, n4, nl, nf⟩ := HF6.out.cells
  have nf4 := nf 4
  have HF7 : Hid (Hf w0 (Y3.setCell ⟨wb, 4, none⟩ (.bool true)) F3 wb lv g n most S' pn' H) := HF6.out.fine
  have HU7 : Hid (Tb (Y3.setCell ⟨wb, 4, none⟩ (.bool true)) F3 w0.w.heap.size (.slice (some ⟨lu, 0, none⟩) nu nu) (tabV n (fun x => !val n S.ns x fa))) := HU3.out.keep fun k cs e hf => ⟨HF6.out.fineb k, hf⟩
  clear hg3 hc3 HP m0 m1 m4 HU nf
  go_upto_region 35 with fail
  obtain ⟨Y4, hY4⟩ : ∃ Y4, Y4 = Y3.setCell ⟨wb, 4, none⟩ (.bool true) := ⟨_, rfl⟩
  rw [← hY4] at HF7 HU7 ⊢
  clear hY4 n4 nl nf4
  obtain ⟨-, -, q3, -, ql, -⟩ := HF7.out.cells
  obtain ⟨ti, ht0, hz0, hz1, hz2⟩ := info_any infoHeld
  have HF8 : Hid (Hf w0 (Y4.alloc (.cells #[.int .i64 (fr : Int), .slice (some ⟨lu, 0, none⟩) nu nu] 36)) (Fc Y4 F3) wb lv g n most S' pn' H) := HF7.out.cut.below ((Below.refl _ _).alloc (Nat.le_refl _) _)
  have HU8 : Hid (Tb (Y4.alloc (.cells #[.int .i64 (fr : Int), .slice (some ⟨lu, 0, none⟩) nu nu] 36)) (Fc Y4 F3) w0.w.heap.size (.slice (some ⟨lu, 0, none⟩) nu nu) (tabV n (fun x => !val n S.ns x fa))) := HU7.out.keep fun k cs e hf => ⟨heap_alloc_old _ _ (blk_lt e), fun q => hf q.1⟩
  have HI0 : Hid _ := And.intro ht0 (And.intro hz0 (And.intro hz1 hz2))
  have hbz := HF8.out.bel.size
  go_wp2_with (at_builtin; refine wpList_append_own_at _ rfl _ _ 27 rfl w0.w.heap.size 36 ti _ 2 32 underHelds HI0.out.1 HI0.out.2.1 HI0.out.2.2.1 HI0.out.2.2.2 rfl (by decide) lv H.length (hcs H) rfl HF8.out.hl.row ⟨Y4.heap.size, 0, none⟩ 1 1 [.int .i64 (fr : Int), .slice (some ⟨lu, 0, none⟩) nu nu] rfl rfl (two_new _ _ _ _) (by intro y hy; simp at hy; rcases hy with rfl | rfl <;> rfl) (by unfold maxLen; omega) (by omega) hbz ?_; intro v' y hown hgrow hnil hat; obtain ⟨rv, cv, hv'⟩ := app_slice hown; subst hv'; obtain ⟨k1, k2, k3⟩ := HF8.out.app (fun k hk => by rw [size_alloc']; exact Nat.lt_succ_of_lt hk.2) HU8.out (by omega) hown hgrow hat; have HK1 : Hid _ := k1; have hwy := blk_lt k1.wc; rw [World.size_setCell] at hwy; clear k1 hown hgrow hnil hat)
  refine bodyPost_end (results_none rfl _ _ _) rfl ?_
  exact ⟨rfl, _, _, S', pn', _, HK1.out, HPG.out, HGW.out, by simp⟩
end Go.Proofs.YtohfjpahdoodgaaGreatDoor
