import Derived.Test.YtcahhahbcijkiaaGreatMg26
namespace Go.Proofs.YtcahhahbcijkiaaGreat.Ag
set_option maxHeartbeats 12800000
set_option maxRecDepth 100000
open Go.RowKit
set_option linter.unusedSimpArgs false
set_option linter.unusedVariables false
theorem negK_step {mo : Nat} {s : Gz} {c : Int} {A : List Int} {k : Nat} {O : List Int} {cy : Int} {s1 : Gz} {one p1 p2 : Int × Gz} (h : negK mo s c A k = (O, cy, s1)) (ho : one = if k = 0 then (cy, s1) else gOr mo s1 cy (A.getD (k - 1) 0)) (h1 : p1 = gAnd mo one.2 c one.1) (h2 : p2 = gXor mo p1.2 (A.getD k 0) p1.1) : negK mo s c A (k + 1) = (O ++ [p2.1], one.1, p2.2) := by
 unfold negK
 simp only
 rw [h]
 dsimp only
 rw [← ho, ← h1, ← h2]
theorem negated_any {w : World} {F : Nat → Prop} {gs g mo : Nat} {s : Gz} {ua : Value} {A : List Int} {c : Int} (h : Gn w F gs g mo s) (hA : Wd w (FG F gs) ua A) (oA : Oks s A) (hcc : OkG s c) :
  Calls Tryz.prog 101 #[.pointer (some ⟨gs, 0, none⟩), .int .i64 c, ua] w (WG w F gs g mo (negF mo s c A)) := by
 obtain ⟨ti, ht0, hz0, hz1, hz2⟩ := info_any infoInt
 have HI : Hid _ := (⟨ht0, hz0, hz1, hz2⟩ : Tryz.prog.info? 3 = some ti ∧ ti.zero = _ ∧ ti.size = 1 ∧ ti.bytes = 8)
 have H : Hid _ := h
 have HA : Hid _ := hA
 have hpos := h.pos
 have HOA : Hid (∀ k, k < A.length → OkG s (A.getD k 0)) := fun k hk => oA _ (getD_mem hk)
 have HCK : Hid (OkG s c) := hcc
 clear hcc
 obtain ⟨aa, ca, rfl, -, h5⟩ := hA.sl
 obtain ⟨q, hq⟩ : ∃ q, q = negF mo s c A := ⟨_, rfl⟩
 rw [← hq]
 have HQ : Hid (q = ((negK mo s c A A.length).1, (negK mo s c A A.length).2.2)) := hq
 obtain ⟨n, hn⟩ : ∃ n, n = A.length := ⟨_, rfl⟩
 have HN : Hid _ := hn
 rw [← hn] at h5 HQ ⊢
 clear h hA oA hq hn ht0 hz0 hz1 hz2
 go_enter Tryz.func101, Tryz.ntmps101
 go_wp2_with fail
 go_loopw [7, 8, 12] (fun v d i wr => ∃ k : Nat, k ≤ n ∧ i = .int .i64 (k : Int) ∧ d = .int .i64 (negK mo s c A k).2.1 ∧ Hid (∃ F1, Gn wr F1 gs g mo (negK mo s c A k).2.2 ∧ Ch w wr (FG F gs) (FG F1 gs) ∧ Is' wr w.heap.size v (negK mo s c A k).1 ∧ ∀ q, v.ownBlock = some q → ¬ FG F1 gs q)) (fun v d i wr => n - (intOf i).toNat)
 case atStart => exact ⟨0, Nat.zero_le _, rfl, rfl, F, H.out, Ch.refl _ _, World.ownsRow_nil _ _ _ _, fun q e => by cases e⟩
 case round =>
  obtain ⟨k, hk, rfl, rfl, F1, hG1, hC1, hO1, hsep1⟩ := hrel
  by_cases hkn : k < n
  ·obtain ⟨k1, k2, k3⟩ := negK_ok (mo := mo) (s := s) (c := c) (A := A) hpos k
   have m1 := HOA.out k (by rw [← HN.out]; exact hkn)
   have hlen := negK_len (mo := mo) (s := s) (c := c) (A := A) k
   obtain ⟨St, hSt⟩ : ∃ y, y = negK mo s c A k := ⟨_, rfl⟩
   rw [← hSt] at hG1 hO1 hlen k1 k2 ⊢
   obtain ⟨O, cy, s1⟩ := St
   dsimp only at hG1 hO1 hlen k1 k2 ⊢
   have HSt : Hid _ := hSt.symm
   obtain ⟨one, hone⟩ : ∃ y, y = if k = 0 then (cy, s1) else gOr mo s1 cy (A.getD (k - 1) 0) := ⟨_, rfl⟩
   obtain ⟨o1, o2⟩ := one_ok (mo := mo) (k := k) (x := A.getD (k - 1) 0) hG1.pos k2
   rw [← hone] at o1 o2
   obtain ⟨x1, hx1⟩ : ∃ x, x = A.getD k 0 := ⟨_, rfl⟩
   rw [← hx1] at m1
   obtain ⟨p1, hp1⟩ : ∃ y, y = gAnd mo one.2 c one.1 := ⟨_, rfl⟩
   obtain ⟨p2, hp2⟩ : ∃ y, y = gXor mo p1.2 x1 p1.1 := ⟨_, rfl⟩
   have HST : Hid (negK mo s c A (k + 1) = (O ++ [p2.1], one.1, p2.2)) := negK_step hSt.symm hone hp1 (by rw [hp2, hx1])
   have HP1 : Hid (p1 = gAnd mo one.2 c one.1) := hp1
   have HP2 : Hid (p2 = gXor mo p1.2 x1 p1.1) := hp2
   have HX1 : Hid (OkG one.2 x1) := (m1.grow k1).grow o1
   have HOC : Hid (OkG one.2 c ∧ OkG one.2 one.1) := ⟨(HCK.out.grow k1).grow o1, o2⟩
   have HA1 : Hid (Pg one.2.ks p1.2.ks ∧ OkG p1.2 p1.1) := by
    unfold Hid
    rw [hp1]
    exact ⟨gAnd_pre, gAnd_ok (by have := o1.length_le; have := hG1.pos; omega)⟩
   obtain ⟨aO, cO, eO, -⟩ := hO1.any
   rw [hlen] at eO
   subst eO
   have HLN : Hid (O.length = k) := hlen
   have hkI : (k : Int) < (n : Int) := by omega
   have HWA : Hid _ := HA.out.ch hC1
   have HX1e : Hid _ := hx1
   clear hlen hSt hp1 hp2 k3 m1 hx1
   by_cases hk0 : k = 0
   ·have HONE : Hid (one = (cy, s1)) := by unfold Hid; rw [hone, if_pos hk0]
    obtain ⟨ra, oa, ca', ea, hra, hca⟩ := HWA.out.cell (k := k) (by rw [← HN.out]; exact hkn)
    have hnA : ¬ FG F1 gs ra := by
     obtain ⟨a', c', e, -, -, -, e4⟩ := HWA.out.ex
     rcases e4 with e4 | ⟨r, o, e5, -, e6, -⟩
     ·rw [e4] at ea; have := HN.out; rw [e4] at this; simp at this; omega
     ·rw [ea] at e
      injection e with e
      rw [e5] at e
      injection e with e
      injection e with e
      rw [e]; exact e6
    rw [← HN.out] at ea
    injection ea with ea1 ea2 ea3
    rw [← HX1e.out] at hca
    obtain ⟨wA, hwA⟩ : ∃ y, y = wr := ⟨_, rfl⟩
    obtain ⟨FA, hFA⟩ : ∃ y, y = F1 := ⟨_, rfl⟩
    rw [← hwA, ← hFA] at hG1 hC1
    rw [← hwA] at hO1
    rw [← hFA] at hsep1 hnA
    rw [← hwA] at hca hra
    have hcA : wA.cell? ⟨ra, oa + k, none⟩ = some (.int .i64 x1) := hca
    have hrA : ra < wA.heap.size := hra
    have HGA : Hid (Gn wA FA gs g mo one.2) := by unfold Hid; rw [HONE.out]; exact hG1
    have HCA : Hid (Ch w wA (FG F gs) (FG FA gs)) := hC1
    have HO : Hid (Is' wA w.heap.size (.slice aO k cO) O) := hO1
    have HSEP : Hid (∀ q, (Value.slice aO k cO).ownBlock = some q → ¬ FG FA gs q) := hsep1
    have hws : w.heap.size ≤ wA.heap.size := hC1.size
    have hoc : cy = one.1 := by rw [HONE.out]
    rw [← hwA, ea1, hoc]
    have hk0I : ¬ (0 : Int) < (k : Int) := by omega
    clear hk0
    clear ea1 ea2 ea3 hca hra hG1 hC1 hO1 hsep1 k1 k2 o1 o2 hone hwA hFA hoc HWA
    have HCA1 : Hid (∀ wx, wx = wA.drew → Calls Tryz.prog 127 #[.pointer (some ⟨gs, 0, none⟩), .int .i64 c, .int .i64 one.1] wx fun ev w' => ev = .returned (.int .i64 p1.1) ∧ EQ1 wA FA gs g mo p1 w') := fun wx hwx => by
     have hb : Below wA.heap.size wA wx := by rw [hwx]; exact ⟨rfl, rfl, rfl, Nat.le_refl _, fun _ _ => rfl⟩
     have := gand_any (HGA.out.below hb) c one.1 HOC.out.1 HOC.out.2
     rw [← HP1.out] at this
     refine this.mono ?_
     rintro ev w2 ⟨rfl, F2, q1, q2⟩
     exact ⟨rfl, F2, q1, (Ch.of_below (FG FA gs) hb).trans q2⟩
    have HCA2 : Hid (∀ wx, EQ1 wA FA gs g mo p1 wx → Calls Tryz.prog 129 #[.pointer (some ⟨gs, 0, none⟩), .int .i64 x1, .int .i64 p1.1] wx fun ev w' => ev = .returned (.int .i64 p2.1) ∧ EQ1 wA FA gs g mo p2 w') := fun wx hwx => by
     obtain ⟨F2, q1, q2⟩ := hwx
     have := gxor_any q1 (HX1.out.grow HA1.out.1) HA1.out.2
     rw [← HP2.out] at this
     refine this.mono ?_
     rintro ev w2 ⟨rfl, F3, q3, q4⟩
     exact ⟨rfl, F3, q3, q2.trans q4⟩
    go_wp2_with fail
    refine wp_named fun a0 ha0 => ?_
    have o0 := old_at ha0 (t := 0) rfl
    have o1 := old_at ha0 (t := 1) rfl
    have o2 := old_at ha0 (t := 2) rfl
    have o7 := old_at ha0 (t := 7) rfl
    have o8 := old_at ha0 (t := 8) rfl
    have o9 := old_at ha0 (t := 9) rfl
    refine wp_region_lin (S := NS w F wA FA gs g mo p1 p2 O) [11, 12] (fun _ => 0) (by kernel_rfl) (by kernel_rfl) (by rw [← ha0]; kernel_rfl) (NS.start) ?_
    refine' LinAll.cons _ ?_ ?_ ?_
    rotate_left 1
    ·intro gg L a x hLi haft hS hK
     have hL7 : L 13 = false := off_b (fun e => waits (hK.cl 13 _ rfl e) 0 (by kernel_rfl)) hLi
     have t7 := (hK.pend1 7 13 (by kernel_rfl) hL7).trans o7
     (try dsimp only at t7)
     refine go_in (wanted_all rfl) ?_
     intro K hk
     clear haft hK hLi
     go_simp
     exact hk.out gg x (fun _ _ => rfl) (hS.go rfl)
    ·intro i hi; exact Or.inl (fun _ _ _ => rfl)
    refine' LinAll.cons _ ?_ ?_ ?_
    rotate_left 1
    ·intro gg L a x hLi haft hS hK
     have t0 := (hK.old 0 (by kernel_rfl)).trans o0
     (try dsimp only at t0)
     refine go_in (wanted_all rfl) ?_
     intro K hk
     clear haft hK hLi
     go_simp
     exact hk.out gg x (fun _ _ => rfl) (hS.go rfl)
    ·intro i hi; exact Or.inl (fun _ _ _ => rfl)
    refine' LinAll.cons _ ?_ ?_ ?_
    rotate_left 1
    ·intro gg L a x hLi haft hS hK
     have t2 := (hK.old 2 (by kernel_rfl)).trans o2
     (try dsimp only at t2)
     refine go_in (wanted_all rfl) ?_
     intro K hk
     clear haft hK hLi
     go_simp
     exact hk.out gg x (fun _ _ => rfl) (hS.go rfl)
    ·intro i hi; exact Or.inl (fun _ _ _ => rfl)
    refine' LinAll.cons _ ?_ ?_ ?_
    rotate_left 1
    ·intro gg L a x hLi haft hS hK
     have t9 := (hK.old 9 (by kernel_rfl)).trans o9
     (try dsimp only at t9)
     refine go_in (wanted_all rfl) ?_
     intro K hk
     clear haft hK hLi
     go_simp
     exact hk.out gg x (fun _ _ => rfl) (hS.go rfl)
    ·intro i hi; exact Or.inl (fun _ _ _ => rfl)
    refine' LinAll.cons _ ?_ ?_ ?_
    rotate_left 1
    ·intro gg L a x hLi haft hS hK
     have t27 := hK.nw haft 2 1 27 rfl (by kernel_rfl)
     have t28 := hK.nw haft 3 0 28 rfl (by kernel_rfl)
     (try dsimp only at t27 t28)
     refine go_in (wanted_all rfl) ?_
     intro K hk
     clear haft hK hLi
     go_simp
     exact hk.out gg x (fun _ _ => rfl) (hS.go rfl)
    ·intro i hi; exact Or.inl (fun _ _ _ => rfl)
    refine' LinAll.cons _ ?_ ?_ ?_
    rotate_left 1
    ·intro gg L a x hLi haft hS hK
     have t29 := hK.nw haft 4 0 29 rfl (by kernel_rfl)
     (try dsimp only at t29)
     have cX : x.cell? ⟨ra, oa + k, none⟩ = some (.int .i64 x1) := by
       have h10 : L 10 = false := off_b (fun e => waits (hK.cl 10 _ rfl e) 5 (by kernel_rfl)) hLi
       cases e9 : L 9 with
       | false => rw [hS.a0 e9]; exact hcA
       | true =>
        obtain ⟨F2, -, hc⟩ := hS.a1 e9 h10
        exact (World.cell?_of_block (a := ⟨ra, oa + k, none⟩) (hc.block ra hrA hnA)).trans hcA
     refine go_in (wanted_all rfl) ?_
     intro K hk
     clear haft hK hLi
     go_simp
     exact hk.out gg x (fun _ _ => rfl) (hS.go rfl)
    ·intro i hi; exact Or.inl (fun _ _ _ => rfl)
    refine' LinAll.cons _ ?_ ?_ ?_
    rotate_left 1
    ·intro gg L a x hLi haft hS hK
     have t0 := (hK.old 0 (by kernel_rfl)).trans o0
     (try dsimp only at t0)
     refine go_in (wanted_all rfl) ?_
     intro K hk
     clear haft hK hLi
     go_simp
     exact hk.out gg x (fun _ _ => rfl) (hS.go rfl)
    ·intro i hi; exact Or.inl (fun _ _ _ => rfl)
    refine' LinAll.cons _ ?_ ?_ ?_
    rotate_left 1
    ·intro gg L a x hLi haft hS hK
     have t1 := (hK.old 1 (by kernel_rfl)).trans o1
     (try dsimp only at t1)
     refine go_in (wanted_all rfl) ?_
     intro K hk
     clear haft hK hLi
     go_simp
     exact hk.out gg x (fun _ _ => rfl) (hS.go rfl)
    ·intro i hi; exact Or.inl (fun _ _ _ => rfl)
    refine' LinAll.cons _ ?_ ?_ ?_
    rotate_left 1
    ·intro gg L a x hLi haft hS hK
     have t8 := (hK.old 8 (by kernel_rfl)).trans o8
     (try dsimp only at t8)
     refine go_in (wanted_all rfl) ?_
     intro K hk
     clear haft hK hLi
     go_simp
     exact hk.out gg x (fun _ _ => rfl) (hS.go rfl)
    ·intro i hi; exact Or.inl (fun _ _ _ => rfl)
    refine' LinAll.cons _ ?_ ?_ ?_
    rotate_left 1
    ·intro gg L a x hLi haft hS hK
     have t31 := hK.nw haft 6 2 31 rfl (by kernel_rfl)
     have t32 := hK.nw haft 7 1 32 rfl (by kernel_rfl)
     have t33 := hK.nw haft 8 0 33 rfl (by kernel_rfl)
     (try dsimp only at t31 t32 t33)
     refine go_in (wanted_all rfl) ?_
     intro K hk
     have hx0 := hS.a0 hLi
     have HVX : Hid _ := HCA1.out x hx0
     clear haft hK hx0
     go_simp
     refine Calls.mono HVX.out ?_
     rintro ev y ⟨rfl, hy⟩
     exact hk.out gg y (fun _ _ => rfl) (hS.c1 hLi hy)
    ·intro i hi; exact Or.inl (fun _ _ _ => rfl)
    refine' LinAll.cons _ ?_ ?_ ?_
    rotate_left 1
    ·intro gg L a x hLi haft hS hK
     have t26 := hK.nw haft 1 8 26 rfl (by kernel_rfl)
     have t30 := hK.nw haft 5 4 30 rfl (by kernel_rfl)
     have t34 := hK.nw haft 9 0 34 rfl (by kernel_rfl)
     (try dsimp only at t26 t30 t34)
     refine go_in (wanted_all rfl) ?_
     intro K hk
     have h9 := waits haft 9 (by kernel_rfl)
     have HVX : Hid _ := HCA2.out x (hS.a1 h9 hLi)
     clear haft hK
     go_simp
     refine Calls.mono HVX.out ?_
     rintro ev y ⟨rfl, hy⟩
     exact hk.out gg y (fun _ _ => rfl) (hS.c2 hLi h9 hy)
    ·intro i hi; exact Or.inl (fun _ _ _ => rfl)
    refine LinAll.cons (fun gg => .slice (some ⟨gg 11, 0, none⟩) 1 1) ?_ ?_ ?_
    ·intro gg L a x hLi haft hS hK
     have t35 := hK.nw haft 10 0 35 rfl (by kernel_rfl)
     (try dsimp only at t35)
     refine go_in (wanted_all rfl) ?_
     intro K hk
     have h10 := waits haft 10 (by kernel_rfl)
     clear haft hK
     go_simp
     have hq := hk.out (updG gg 11 x.heap.size) _ (updG_al (by rfl)) (hS.built hLi h10)
     dsimp only at hq
     rw [updG_eq] at hq
     exact hq
    ·intro i hi
     simp only [List.mem_cons, List.not_mem_nil, or_false] at hi
     rcases hi with rfl | rfl
     ·exact Or.inr (by kernel_rfl)
     ·exact Or.inl (fun g g' h => by simp only [h 11 (by decide)])
    refine LinAll.cons (fun gg => sl (O.length + 1) (gg 12)) ?_ ?_ ?_
    ·intro gg L a x hLi haft hS hK
     have t25 := hK.nw haft 0 11 25 rfl (by kernel_rfl)
     have t36 := hK.nw haft 11 0 36 rfl (by kernel_rfl)
     (try dsimp only at t25 t36)
     refine go_in (wanted_all rfl) ?_
     intro K hk
     have h11 := waits haft 11 (by kernel_rfl)
     obtain ⟨y, hy, hxy, hgy⟩ := hS.a3 h11 hLi
     have hys : wA.heap.size ≤ y.heap.size := by obtain ⟨F2, -, hc⟩ := hy; exact hc.size
     have hrow : Is' x w.heap.size (.slice aO k cO) O := row_own HO.out (fun z hz => by
       obtain ⟨F2, -, hc⟩ := hy
       have hzl := (HO.out.lt z hz).2
       rw [hxy, heap_alloc_old y _ (by omega)]
       exact hc.block z hzl (HSEP.out z hz))
     have hbl : x.heap[gg 11]? = some (.cells #[.int .i64 p2.1] 3 (0, 0)) := by rw [hxy, hgy]; exact heap_alloc_new y _
     have hxs : w.heap.size ≤ x.heap.size := by rw [hxy]; simp; omega
     refine wp_append_at _ (.tmp 25) (.tmp 36) 81 rfl w.heap.size 3 ti _ 1 8 underWord HI.out.1 HI.out.2.1 HI.out.2.2.1 HI.out.2.2.2 rfl (by decide) _ O.length _ (eval_tmp t25) hrow ⟨gg 11, 0, none⟩ 1 1 [.int .i64 p2.1] (eval_tmp t36) rfl (fun j u hj => by
       have e : (⟨gg 11, 0, none⟩ : Addr).add j = ⟨gg 11, j, none⟩ := by simp [Addr.add]; try (intro hq; exact hq.symm)
       rw [e]; exact cell_of hbl j (by simpa using hj)) (ones [p2.1]) (by rw [HLN.out]; unfold maxLen; omega) (by rw [HLN.out]; omega) hxs ?_
     intro v' z hown hgrow hat
     obtain ⟨pp, rfl⟩ := sl_own hown (by omega)
     have hown' : Is' z w.heap.size (sl (O.length + 1) pp) (O ++ [p2.1]) := by unfold Is'; rw [List.length_append, List.map_append]; exact hown
     have hq := hk.out (updG gg 12 pp) z (updG_al (by rfl)) (hS.app h11 (EQ3.of hy hxy HCA.out HO.out HSEP.out hown' hgrow hat))
     dsimp only at hq
     rw [updG_eq] at hq
     exact hq
    ·intro i hi
     simp only [List.mem_cons, List.not_mem_nil, or_false] at hi
     rcases hi with rfl | rfl
     ·exact Or.inl (fun g g' h => by simp only [h 12 (by decide)])
     ·exact Or.inr (by kernel_rfl)
    refine' LinAll.cons _ ?_ ?_ ?_
    rotate_left 1
    ·intro gg L a x hLi haft hS hK
     have t37 := hK.nw haft 12 0 37 rfl (by kernel_rfl)
     (try dsimp only at t37)
     unfold sl at t37
     refine go_in (wanted_all rfl) ?_
     intro K hk
     clear haft hK hLi
     go_simp
     exact hk.out gg x (fun _ _ => rfl) (hS.go rfl)
    ·intro i hi
     simp only [List.mem_cons, List.not_mem_nil, or_false] at hi
     rcases hi with rfl | rfl
     ·exact Or.inl (fun g g' h => by simp only [h 12 (by decide)])
     ·exact Or.inr (by kernel_rfl)
    refine LinAll.nil fun gg x hS => ?_
    subst ha0
    simp only [Act.put, List.setIfInBounds_toArray, List.set_cons_zero, List.set_cons_succ]
    clear o0 o1 o2 o7 o8 o9
    have HE : Hid _ := hS.a4 rfl
    clear hS
    unfold sl at HE ⊢
    go_wp2_with fail
    refine ⟨⟨k + 1, by omega, by go_num, by rw [HST.out], ?_⟩, by simp [intOf]; omega⟩
    obtain ⟨F2, q1, q2, q3, q4⟩ := HE.out
    unfold Hid
    rw [HST.out]
    exact ⟨F2, q1, q2, q3, q4⟩
   ·have hk0I : (0 : Int) < (k : Int) := by omega
    have HONE : Hid (one = gOr mo s1 cy (A.getD (k - 1) 0)) := by unfold Hid; rw [hone, if_neg hk0]
    obtain ⟨rp, op, cp', ep, hrp, hcp⟩ := HWA.out.cell (k := k - 1) (by rw [← HN.out]; omega)
    rw [← HN.out] at ep
    injection ep with ep1 ep2 ep3
    have mp := (HOA.out (k - 1) (by rw [← HN.out]; omega)).grow k1
    obtain ⟨xp, hxp⟩ : ∃ x, x = A.getD (k - 1) 0 := ⟨_, rfl⟩
    rw [← hxp] at hcp mp HONE
    have HCO : Hid _ := gor_any hG1 k2 mp
    rw [← HONE.out] at HCO
    obtain ⟨j, hj⟩ : ∃ j : Nat, k = j + 1 := ⟨k - 1, by omega⟩
    have hcp2 : wr.cell? ⟨rp, op + j, none⟩ = some (.int .i64 xp) := by rw [show j = k - 1 by omega]; exact hcp
    have hjI : (k : Int) - 1 = (j : Int) := by omega
    have HR : Hid (Ch w wr (FG F gs) (FG F1 gs) ∧ Is' wr w.heap.size (.slice aO k cO) O ∧ ∀ q, (Value.slice aO k cO).ownBlock = some q → ¬ FG F1 gs q) := ⟨hC1, hO1, hsep1⟩
    have hjn : (j : Int) < (n : Int) := by omega
    rw [ep1]
    have HEP : Hid (aa = some ⟨rp, op, none⟩) := ep1
    clear ep1 ep2 ep3 hcp mp hxp hG1 hC1 hO1 hsep1 k1 k2 o1 o2 hone hj
    go_wp2_with fail
    refine Calls.mono HCO.out ?_
    rintro ev wA ⟨rfl, FA, hGA, hCA⟩
    obtain ⟨r1, r2, r3, r4⟩ := EQ3.more HR.out.1 HR.out.2.1 HR.out.2.2 hGA hCA
    have HWB : Hid _ := HWA.out.ch hCA
    obtain ⟨ra, oa, ca', ea, hra, hca⟩ := HWB.out.cell (k := k) (by rw [← HN.out]; exact hkn)
    have hnA : ¬ FG FA gs ra := by
     obtain ⟨a', c', e, -, -, -, e4⟩ := HWB.out.ex
     rcases e4 with e4 | ⟨r, o, e5, -, e6, -⟩
     ·rw [e4] at ea; have := HN.out; rw [e4] at this; simp at this; omega
     ·rw [ea] at e
      injection e with e
      rw [e5] at e
      injection e with e
      injection e with e
      rw [e]; exact e6
    rw [← HN.out] at ea
    injection ea with ea1 ea2 ea3
    rw [← HX1e.out] at hca
    have hcA : wA.cell? ⟨ra, oa + k, none⟩ = some (.int .i64 x1) := hca
    have hrA : ra < wA.heap.size := hra
    have HGA : Hid (Gn wA FA gs g mo one.2) := r1
    have HCA : Hid (Ch w wA (FG F gs) (FG FA gs)) := r2
    have HO : Hid (Is' wA w.heap.size (.slice aO k cO) O) := r3
    have HSEP : Hid (∀ q, (Value.slice aO k cO).ownBlock = some q → ¬ FG FA gs q) := r4
    have hws : w.heap.size ≤ wA.heap.size := r2.size
    obtain ⟨e1, e2⟩ : ra = rp ∧ oa = op := by
     rw [HEP.out] at ea1
     injection ea1 with ea1
     injection ea1 with ea1 ea2
     exact ⟨ea1.symm, ea2.symm⟩
    subst e1
    subst e2
    clear ea1 ea2 ea3 hca hra hGA hCA r1 r2 r3 r4 HWA HWB hcp2 HR HCO
    have HCA1 : Hid (∀ wx, wx = wA.drew → Calls Tryz.prog 127 #[.pointer (some ⟨gs, 0, none⟩), .int .i64 c, .int .i64 one.1] wx fun ev w' => ev = .returned (.int .i64 p1.1) ∧ EQ1 wA FA gs g mo p1 w') := fun wx hwx => by
     have hb : Below wA.heap.size wA wx := by rw [hwx]; exact ⟨rfl, rfl, rfl, Nat.le_refl _, fun _ _ => rfl⟩
     have := gand_any (HGA.out.below hb) c one.1 HOC.out.1 HOC.out.2
     rw [← HP1.out] at this
     refine this.mono ?_
     rintro ev w2 ⟨rfl, F2, q1, q2⟩
     exact ⟨rfl, F2, q1, (Ch.of_below (FG FA gs) hb).trans q2⟩
    have HCA2 : Hid (∀ wx, EQ1 wA FA gs g mo p1 wx → Calls Tryz.prog 129 #[.pointer (some ⟨gs, 0, none⟩), .int .i64 x1, .int .i64 p1.1] wx fun ev w' => ev = .returned (.int .i64 p2.1) ∧ EQ1 wA FA gs g mo p2 w') := fun wx hwx => by
     obtain ⟨F2, q1, q2⟩ := hwx
     have := gxor_any q1 (HX1.out.grow HA1.out.1) HA1.out.2
     rw [← HP2.out] at this
     refine this.mono ?_
     rintro ev w2 ⟨rfl, F3, q3, q4⟩
     exact ⟨rfl, F3, q3, q2.trans q4⟩
    go_wp2_with fail
    refine wp_named fun a0 ha0 => ?_
    have o0 := old_at ha0 (t := 0) rfl
    have o1 := old_at ha0 (t := 1) rfl
    have o2 := old_at ha0 (t := 2) rfl
    have o7 := old_at ha0 (t := 7) rfl
    have o8 := old_at ha0 (t := 8) rfl
    have o9 := old_at ha0 (t := 9) rfl
    refine wp_region_lin (S := NS w F wA FA gs g mo p1 p2 O) [11, 12] (fun _ => 0) (by kernel_rfl) (by kernel_rfl) (by rw [← ha0]; kernel_rfl) (NS.start) ?_
    refine' LinAll.cons _ ?_ ?_ ?_
    rotate_left 1
    ·intro gg L a x hLi haft hS hK
     have hL7 : L 13 = false := off_b (fun e => waits (hK.cl 13 _ rfl e) 0 (by kernel_rfl)) hLi
     have t7 := (hK.pend1 7 13 (by kernel_rfl) hL7).trans o7
     (try dsimp only at t7)
     refine go_in (wanted_all rfl) ?_
     intro K hk
     clear haft hK hLi
     go_simp
     exact hk.out gg x (fun _ _ => rfl) (hS.go rfl)
    ·intro i hi; exact Or.inl (fun _ _ _ => rfl)
    refine' LinAll.cons _ ?_ ?_ ?_
    rotate_left 1
    ·intro gg L a x hLi haft hS hK
     have t0 := (hK.old 0 (by kernel_rfl)).trans o0
     (try dsimp only at t0)
     refine go_in (wanted_all rfl) ?_
     intro K hk
     clear haft hK hLi
     go_simp
     exact hk.out gg x (fun _ _ => rfl) (hS.go rfl)
    ·intro i hi; exact Or.inl (fun _ _ _ => rfl)
    refine' LinAll.cons _ ?_ ?_ ?_
    rotate_left 1
    ·intro gg L a x hLi haft hS hK
     have t2 := (hK.old 2 (by kernel_rfl)).trans o2
     (try dsimp only at t2)
     refine go_in (wanted_all rfl) ?_
     intro K hk
     clear haft hK hLi
     go_simp
     exact hk.out gg x (fun _ _ => rfl) (hS.go rfl)
    ·intro i hi; exact Or.inl (fun _ _ _ => rfl)
    refine' LinAll.cons _ ?_ ?_ ?_
    rotate_left 1
    ·intro gg L a x hLi haft hS hK
     have t9 := (hK.old 9 (by kernel_rfl)).trans o9
     (try dsimp only at t9)
     refine go_in (wanted_all rfl) ?_
     intro K hk
     clear haft hK hLi
     go_simp
     exact hk.out gg x (fun _ _ => rfl) (hS.go rfl)
    ·intro i hi; exact Or.inl (fun _ _ _ => rfl)
    refine' LinAll.cons _ ?_ ?_ ?_
    rotate_left 1
    ·intro gg L a x hLi haft hS hK
     have t27 := hK.nw haft 2 1 27 rfl (by kernel_rfl)
     have t28 := hK.nw haft 3 0 28 rfl (by kernel_rfl)
     (try dsimp only at t27 t28)
     refine go_in (wanted_all rfl) ?_
     intro K hk
     clear haft hK hLi
     go_simp
     exact hk.out gg x (fun _ _ => rfl) (hS.go rfl)
    ·intro i hi; exact Or.inl (fun _ _ _ => rfl)
    refine' LinAll.cons _ ?_ ?_ ?_
    rotate_left 1
    ·intro gg L a x hLi haft hS hK
     have t29 := hK.nw haft 4 0 29 rfl (by kernel_rfl)
     (try dsimp only at t29)
     have cX : x.cell? ⟨ra, oa + k, none⟩ = some (.int .i64 x1) := by
       have h10 : L 10 = false := off_b (fun e => waits (hK.cl 10 _ rfl e) 5 (by kernel_rfl)) hLi
       cases e9 : L 9 with
       | false => rw [hS.a0 e9]; exact hcA
       | true =>
        obtain ⟨F2, -, hc⟩ := hS.a1 e9 h10
        exact (World.cell?_of_block (a := ⟨ra, oa + k, none⟩) (hc.block ra hrA hnA)).trans hcA
     refine go_in (wanted_all rfl) ?_
     intro K hk
     clear haft hK hLi
     go_simp
     exact hk.out gg x (fun _ _ => rfl) (hS.go rfl)
    ·intro i hi; exact Or.inl (fun _ _ _ => rfl)
    refine' LinAll.cons _ ?_ ?_ ?_
    rotate_left 1
    ·intro gg L a x hLi haft hS hK
     have t0 := (hK.old 0 (by kernel_rfl)).trans o0
     (try dsimp only at t0)
     refine go_in (wanted_all rfl) ?_
     intro K hk
     clear haft hK hLi
     go_simp
     exact hk.out gg x (fun _ _ => rfl) (hS.go rfl)
    ·intro i hi; exact Or.inl (fun _ _ _ => rfl)
    refine' LinAll.cons _ ?_ ?_ ?_
    rotate_left 1
    ·intro gg L a x hLi haft hS hK
     have t1 := (hK.old 1 (by kernel_rfl)).trans o1
     (try dsimp only at t1)
     refine go_in (wanted_all rfl) ?_
     intro K hk
     clear haft hK hLi
     go_simp
     exact hk.out gg x (fun _ _ => rfl) (hS.go rfl)
    ·intro i hi; exact Or.inl (fun _ _ _ => rfl)
    refine' LinAll.cons _ ?_ ?_ ?_
    rotate_left 1
    ·intro gg L a x hLi haft hS hK
     have t8 := (hK.old 8 (by kernel_rfl)).trans o8
     (try dsimp only at t8)
     refine go_in (wanted_all rfl) ?_
     intro K hk
     clear haft hK hLi
     go_simp
     exact hk.out gg x (fun _ _ => rfl) (hS.go rfl)
    ·intro i hi; exact Or.inl (fun _ _ _ => rfl)
    refine' LinAll.cons _ ?_ ?_ ?_
    rotate_left 1
    ·intro gg L a x hLi haft hS hK
     have t31 := hK.nw haft 6 2 31 rfl (by kernel_rfl)
     have t32 := hK.nw haft 7 1 32 rfl (by kernel_rfl)
     have t33 := hK.nw haft 8 0 33 rfl (by kernel_rfl)
     (try dsimp only at t31 t32 t33)
     refine go_in (wanted_all rfl) ?_
     intro K hk
     have hx0 := hS.a0 hLi
     have HVX : Hid _ := HCA1.out x hx0
     clear haft hK hx0
     go_simp
     refine Calls.mono HVX.out ?_
     rintro ev y ⟨rfl, hy⟩
     exact hk.out gg y (fun _ _ => rfl) (hS.c1 hLi hy)
    ·intro i hi; exact Or.inl (fun _ _ _ => rfl)
    refine' LinAll.cons _ ?_ ?_ ?_
    rotate_left 1
    ·intro gg L a x hLi haft hS hK
     have t26 := hK.nw haft 1 8 26 rfl (by kernel_rfl)
     have t30 := hK.nw haft 5 4 30 rfl (by kernel_rfl)
     have t34 := hK.nw haft 9 0 34 rfl (by kernel_rfl)
     (try dsimp only at t26 t30 t34)
     refine go_in (wanted_all rfl) ?_
     intro K hk
     have h9 := waits haft 9 (by kernel_rfl)
     have HVX : Hid _ := HCA2.out x (hS.a1 h9 hLi)
     clear haft hK
     go_simp
     refine Calls.mono HVX.out ?_
     rintro ev y ⟨rfl, hy⟩
     exact hk.out gg y (fun _ _ => rfl) (hS.c2 hLi h9 hy)
    ·intro i hi; exact Or.inl (fun _ _ _ => rfl)
    refine LinAll.cons (fun gg => .slice (some ⟨gg 11, 0, none⟩) 1 1) ?_ ?_ ?_
    ·intro gg L a x hLi haft hS hK
     have t35 := hK.nw haft 10 0 35 rfl (by kernel_rfl)
     (try dsimp only at t35)
     refine go_in (wanted_all rfl) ?_
     intro K hk
     have h10 := waits haft 10 (by kernel_rfl)
     clear haft hK
     go_simp
     have hq := hk.out (updG gg 11 x.heap.size) _ (updG_al (by rfl)) (hS.built hLi h10)
     dsimp only at hq
     rw [updG_eq] at hq
     exact hq
    ·intro i hi
     simp only [List.mem_cons, List.not_mem_nil, or_false] at hi
     rcases hi with rfl | rfl
     ·exact Or.inr (by kernel_rfl)
     ·exact Or.inl (fun g g' h => by simp only [h 11 (by decide)])
    refine LinAll.cons (fun gg => sl (O.length + 1) (gg 12)) ?_ ?_ ?_
    ·intro gg L a x hLi haft hS hK
     have t25 := hK.nw haft 0 11 25 rfl (by kernel_rfl)
     have t36 := hK.nw haft 11 0 36 rfl (by kernel_rfl)
     (try dsimp only at t25 t36)
     refine go_in (wanted_all rfl) ?_
     intro K hk
     have h11 := waits haft 11 (by kernel_rfl)
     obtain ⟨y, hy, hxy, hgy⟩ := hS.a3 h11 hLi
     have hys : wA.heap.size ≤ y.heap.size := by obtain ⟨F2, -, hc⟩ := hy; exact hc.size
     have hrow : Is' x w.heap.size (.slice aO k cO) O := row_own HO.out (fun z hz => by
       obtain ⟨F2, -, hc⟩ := hy
       have hzl := (HO.out.lt z hz).2
       rw [hxy, heap_alloc_old y _ (by omega)]
       exact hc.block z hzl (HSEP.out z hz))
     have hbl : x.heap[gg 11]? = some (.cells #[.int .i64 p2.1] 3 (0, 0)) := by rw [hxy, hgy]; exact heap_alloc_new y _
     have hxs : w.heap.size ≤ x.heap.size := by rw [hxy]; simp; omega
     refine wp_append_at _ (.tmp 25) (.tmp 36) 81 rfl w.heap.size 3 ti _ 1 8 underWord HI.out.1 HI.out.2.1 HI.out.2.2.1 HI.out.2.2.2 rfl (by decide) _ O.length _ (eval_tmp t25) hrow ⟨gg 11, 0, none⟩ 1 1 [.int .i64 p2.1] (eval_tmp t36) rfl (fun j u hj => by
       have e : (⟨gg 11, 0, none⟩ : Addr).add j = ⟨gg 11, j, none⟩ := by simp [Addr.add]; try (intro hq; exact hq.symm)
       rw [e]; exact cell_of hbl j (by simpa using hj)) (ones [p2.1]) (by rw [HLN.out]; unfold maxLen; omega) (by rw [HLN.out]; omega) hxs ?_
     intro v' z hown hgrow hat
     obtain ⟨pp, rfl⟩ := sl_own hown (by omega)
     have hown' : Is' z w.heap.size (sl (O.length + 1) pp) (O ++ [p2.1]) := by unfold Is'; rw [List.length_append, List.map_append]; exact hown
     have hq := hk.out (updG gg 12 pp) z (updG_al (by rfl)) (hS.app h11 (EQ3.of hy hxy HCA.out HO.out HSEP.out hown' hgrow hat))
     dsimp only at hq
     rw [updG_eq] at hq
     exact hq
    ·intro i hi
     simp only [List.mem_cons, List.not_mem_nil, or_false] at hi
     rcases hi with rfl | rfl
     ·exact Or.inl (fun g g' h => by simp only [h 12 (by decide)])
     ·exact Or.inr (by kernel_rfl)
    refine' LinAll.cons _ ?_ ?_ ?_
    rotate_left 1
    ·intro gg L a x hLi haft hS hK
     have t37 := hK.nw haft 12 0 37 rfl (by kernel_rfl)
     (try dsimp only at t37)
     unfold sl at t37
     refine go_in (wanted_all rfl) ?_
     intro K hk
     clear haft hK hLi
     go_simp
     exact hk.out gg x (fun _ _ => rfl) (hS.go rfl)
    ·intro i hi
     simp only [List.mem_cons, List.not_mem_nil, or_false] at hi
     rcases hi with rfl | rfl
     ·exact Or.inl (fun g g' h => by simp only [h 12 (by decide)])
     ·exact Or.inr (by kernel_rfl)
    refine LinAll.nil fun gg x hS => ?_
    subst ha0
    simp only [Act.put, List.setIfInBounds_toArray, List.set_cons_zero, List.set_cons_succ]
    clear o0 o1 o2 o7 o8 o9
    have HE : Hid _ := hS.a4 rfl
    clear hS
    unfold sl at HE ⊢
    go_wp2_with fail
    refine ⟨⟨k + 1, by omega, by go_num, by rw [HST.out], ?_⟩, by simp [intOf]; omega⟩
    obtain ⟨F2, q1, q2, q3, q4⟩ := HE.out
    unfold Hid
    rw [HST.out]
    exact ⟨F2, q1, q2, q3, q4⟩
  ·obtain rfl : k = n := by omega
   have hkI : ¬ (k : Int) < (k : Int) := by omega
   have HW : Hid (∃ F', Wd wr (FG F' gs) u7 q.1 ∧ Gn wr F' gs g mo q.2 ∧ Ch w wr (FG F gs) (FG F' gs)) := by
    rw [HQ.out]
    exact ⟨F1, wd_of hO1 hsep1 (by rw [negK_len]; exact h5), hG1, hC1⟩
   clear hG1 hC1 hO1 hsep1
   go_wp2_with fail
   go_ret
   exact ⟨_, rfl, HW.out⟩
end Go.Proofs.YtcahhahbcijkiaaGreat.Ag
