import Derived.Test.YtcahhahbcijkiaaGreatMg23
namespace Go.Proofs.YtcahhahbcijkiaaGreat.Ag
set_option maxHeartbeats 12800000
set_option maxRecDepth 100000
open Go.RowKit
set_option linter.unusedSimpArgs false
set_option linter.unusedVariables false
def WG (w : World) (F : Nat → Prop) (gs g mo : Nat) (p : List Int × Gz) : Ending → World → Prop := fun ev w' => ∃ u, ev = .returned u ∧ ∃ F', Wd w' (FG F' gs) u p.1 ∧ Gn w' F' gs g mo p.2 ∧ Ch w w' (FG F gs) (FG F' gs)
def eachK (G : Gz → Int → Int → Int × Gz) (s : Gz) (A B : List Int) : Nat → List Int × Gz
 | 0 => ([], s)
 | k + 1 => ((eachK G s A B k).1 ++ [(G (eachK G s A B k).2 (A.getD k 0) (B.getD k 0)).1], (G (eachK G s A B k).2 (A.getD k 0) (B.getD k 0)).2)
def eachF (G : Gz → Int → Int → Int × Gz) (s : Gz) (A B : List Int) : List Int × Gz := eachK G s A B A.length
structure GK (G : Gz → Int → Int → Int × Gz) (s0 : Gz) : Prop where
 pre : ∀ s a b, Pg s0.ks s.ks → OkG s a → OkG s b → Pg s.ks (G s a b).2.ks
 ok : ∀ s a b, Pg s0.ks s.ks → 0 < s.ks.length → OkG s a → OkG s b → OkG (G s a b).2 (G s a b).1
theorem eachK_len {G : Gz → Int → Int → Int × Gz} {s : Gz} {A B : List Int} : ∀ k, (eachK G s A B k).1.length = k
 | 0 => rfl
 | k + 1 => by
  show ((eachK G s A B k).1 ++ [_]).length = k + 1
  rw [List.length_append, eachK_len k]
  rfl
theorem getD_mem {L : List Int} {k : Nat} (h : k < L.length) : L.getD k 0 ∈ L := by
 rw [List.getD_eq_getElem?_getD, List.getElem?_eq_getElem h]; exact List.getElem_mem _
theorem eachK_ok {G : Gz → Int → Int → Int × Gz} {s : Gz} {A B : List Int} (hG : GK G s) (hp : 0 < s.ks.length) (hA : ∀ x ∈ A, OkG s x) (hB : ∀ x ∈ B, OkG s x) (hl : A.length ≤ B.length) : ∀ k, k ≤ A.length → Pg s.ks (eachK G s A B k).2.ks ∧ ∀ x ∈ (eachK G s A B k).1, OkG (eachK G s A B k).2 x
 | 0, _ => ⟨Pg.refl _, fun x hx => by cases hx⟩
 | k + 1, hk => by
  obtain ⟨h1, h2⟩ := eachK_ok hG hp hA hB hl k (by omega)
  have hp2 : 0 < (eachK G s A B k).2.ks.length := by have := h1.length_le; omega
  have oa := (hA _ (getD_mem (L := A) (k := k) (by omega))).grow h1
  have ob := (hB _ (getD_mem (L := B) (k := k) (by omega))).grow h1
  have g1 := hG.pre _ _ _ h1 oa ob
  refine ⟨h1.trans g1, fun x hx => ?_⟩
  rcases List.mem_append.1 hx with hx | hx
  ·exact (h2 x hx).grow g1
  ·rw [List.mem_singleton.1 hx]
   exact hG.ok _ _ _ h1 hp2 oa ob
theorem each_and {w : World} {F : Nat → Prop} {gs g mo : Nat} {s : Gz} (h : Gn w F gs g mo s) {G : Gz → Int → Int → Int × Gz} (hG : GK G s) {ua ub : Value} {A B : List Int} (hA : Wd w (FG F gs) ua A) (hB : Wd w (FG F gs) ub B) (hl : A.length ≤ B.length) (oA : ∀ x ∈ A, OkG s x) (oB : ∀ x ∈ B, OkG s x)
  (hg : ∀ wx F' s' a b, Gn wx F' gs g mo s' → Pg s.ks s'.ks → OkG s' a → OkG s' b → Ch w wx (FG F gs) (FG F' gs) → Calls Tryz.prog 127 #[.pointer (some ⟨gs, 0, none⟩), .int .i64 a, .int .i64 b] wx (GD wx F' gs g mo (G s' a b))) :
  Calls Tryz.prog 93 #[.func (.func 127) #[.pointer (some ⟨gs, 0, none⟩)] #[], ua, ub] w (WG w F gs g mo (eachF G s A B)) := by
 obtain ⟨ti, ht0, hz0, hz1, hz2⟩ := info_any infoInt
 have HI : Hid _ := (⟨ht0, hz0, hz1, hz2⟩ : Tryz.prog.info? 3 = some ti ∧ ti.zero = _ ∧ ti.size = 1 ∧ ti.bytes = 8)
 have H : Hid _ := h
 have HG : Hid _ := hg
 have HA : Hid _ := hA
 have HB : Hid _ := hB
 have HOK : Hid (∀ k, k ≤ A.length → Pg s.ks (eachK G s A B k).2.ks ∧ ∀ x ∈ (eachK G s A B k).1, OkG (eachK G s A B k).2 x) := fun k hk => eachK_ok hG h.pos oA oB hl k hk
 have HOA : Hid (∀ k, k < A.length → OkG s (A.getD k 0) ∧ OkG s (B.getD k 0)) := fun k hk => ⟨oA _ (getD_mem hk), oB _ (getD_mem (by omega))⟩
 obtain ⟨aa, ca, rfl, -, h5⟩ := hA.sl
 obtain ⟨ab, cb, rfl, -, h5b⟩ := hB.sl
 obtain ⟨q, hq⟩ : ∃ q, q = eachF G s A B := ⟨_, rfl⟩
 rw [← hq]
 have HQ : Hid (q = eachK G s A B A.length) := hq
 obtain ⟨n, hn⟩ : ∃ n, n = A.length := ⟨_, rfl⟩
 obtain ⟨nb, hnb⟩ : ∃ n, n = B.length := ⟨_, rfl⟩
 have HN : Hid _ := hn
 have HNB : Hid _ := hnb
 rw [← hn] at h5 HQ hl ⊢
 rw [← hnb] at hl ⊢
 clear h hg hA hB hG oA oB hq hn hnb ht0 hz0 hz1 hz2 h5b
 go_enter Tryz.func93, Tryz.ntmps93
 go_wp2_with fail
 go_loopw [7, 11] (fun v i wr => ∃ k : Nat, k ≤ n ∧ i = .int .i64 (k : Int) ∧ Hid (∃ F1, Gn wr F1 gs g mo (eachK G s A B k).2 ∧ Ch w wr (FG F gs) (FG F1 gs) ∧ Is' wr w.heap.size v (eachK G s A B k).1 ∧ ∀ q, v.ownBlock = some q → ¬ FG F1 gs q)) (fun v i wr => n - (intOf i).toNat)
 case atStart => exact ⟨0, Nat.zero_le _, rfl, F, H.out, Ch.refl _ _, World.ownsRow_nil _ _ _ _, fun q e => by cases e⟩
 case round =>
  obtain ⟨k, hk, rfl, F1, hG1, hC1, hO1, hsep1⟩ := hrel
  by_cases hkn : k < n
  ·obtain ⟨ra, oa, ca', ea, hra, hca⟩ := (HA.out.ch hC1).cell (k := k) (by rw [← HN.out]; exact hkn)
   obtain ⟨rb, ob, cb', eb, hrb, hcb⟩ := (HB.out.ch hC1).cell (k := k) (by rw [← HNB.out]; omega)
   rw [← HN.out] at ea
   rw [← HNB.out] at eb
   injection ea with ea1 ea2 ea3
   injection eb with eb1 eb2 eb3
   obtain ⟨k1, k2⟩ := HOK.out k (by rw [← HN.out]; exact hk)
   obtain ⟨m1, m2⟩ := HOA.out k (by rw [← HN.out]; exact hkn)
   have HST : Hid (eachK G s A B (k + 1) = ((eachK G s A B k).1 ++ [(G (eachK G s A B k).2 (A.getD k 0) (B.getD k 0)).1], (G (eachK G s A B k).2 (A.getD k 0) (B.getD k 0)).2)) := rfl
   have hlen := eachK_len (G := G) (s := s) (A := A) (B := B) k
   have HCL : Hid _ := HG.out wr F1 _ _ _ hG1 k1 (m1.grow k1) (m2.grow k1) hC1
   obtain ⟨x1, hx1⟩ : ∃ x, x = A.getD k 0 := ⟨_, rfl⟩
   obtain ⟨x2, hx2⟩ : ∃ x, x = B.getD k 0 := ⟨_, rfl⟩
   rw [← hx1] at hca HST HCL
   rw [← hx2] at hcb HST HCL
   obtain ⟨p, hp⟩ : ∃ p, p = G (eachK G s A B k).2 x1 x2 := ⟨_, rfl⟩
   rw [← hp] at HST HCL
   obtain ⟨O, hO⟩ : ∃ O, O = (eachK G s A B k).1 := ⟨_, rfl⟩
   rw [← hO] at hO1 HST hlen
   obtain ⟨aO, cO, eO, -⟩ := hO1.any
   rw [hlen] at eO
   subst eO
   have HO : Hid (Is' wr w.heap.size (.slice aO k cO) O) := hO1
   have HC1 : Hid (Ch w wr (FG F gs) (FG F1 gs)) := hC1
   have HSEP : Hid (∀ q, (Value.slice aO k cO).ownBlock = some q → ¬ FG F1 gs q) := hsep1
   have HG1 : Hid _ := hG1
   have hws : w.heap.size ≤ wr.heap.size := hC1.size
   have HLN : Hid (O.length = k) := hlen
   have HCLd : Hid (∀ wx, wx = wr.drew → Calls Tryz.prog 127 #[.pointer (some ⟨gs, 0, none⟩), .int .i64 x1, .int .i64 x2] wx fun ev w' => ev = .returned (.int .i64 p.1) ∧ EQ1 wr F1 gs g mo p w') := fun wx hwx => by
    have hb : Below wr.heap.size wr wx := by rw [hwx]; exact ⟨rfl, rfl, rfl, Nat.le_refl _, fun _ _ => rfl⟩
    have := HG.out wx F1 _ x1 x2 (hG1.below hb) k1 (by rw [hx1]; exact m1.grow k1) (by rw [hx2]; exact m2.grow k1) (hC1.trans (Ch.of_below _ hb))
    rw [← hp] at this
    refine this.mono ?_
    rintro ev w2 ⟨rfl, F2, q1, q2⟩
    exact ⟨rfl, F2, q1, (Ch.of_below (FG F1 gs) hb).trans q2⟩
   rw [ea1, eb1]
   have hkI : (k : Int) < (n : Int) := by omega
   have hkB : (k : Int) < (nb : Int) := by omega
   clear ea1 ea2 ea3 eb1 eb2 eb3 hG1 hC1 hO1 hsep1 k1 k2 m1 m2 hx1 hx2 hp hO hlen HCL
   go_wp2_with fail
   refine wp_named fun a0 ha0 => ?_
   have o0 := old_at ha0 (t := 0) rfl
   have o1 := old_at ha0 (t := 1) rfl
   have o2 := old_at ha0 (t := 2) rfl
   have o7 := old_at ha0 (t := 7) rfl
   have o8 := old_at ha0 (t := 8) rfl
   refine wp_region_lin (S := ES w F wr F1 gs g mo p w.heap.size O) [11, 12] (fun _ => 0) (by kernel_rfl) (by kernel_rfl) (by rw [← ha0]; kernel_rfl) (ES.start) ?_
   refine' LinAll.cons _ ?_ ?_ ?_
   rotate_left 1
   ·intro gg L a x hLi haft hS hK
    have hL7 : L 13 = false := off_b (fun e => waits (hK.cl 13 _ rfl e) 0 (by kernel_rfl)) hLi
    have t7 := (hK.pend1 7 13 (by kernel_rfl) hL7).trans o7
    (try dsimp only at t7)
    refine go_in (wanted_all rfl) ?_
    intro K hk
    clear haft hK hLi
    go_simp
    exact hk.out gg x (fun _ _ => rfl) (hS.go rfl)
   ·intro i hi; exact Or.inl (fun _ _ _ => rfl)
   refine' LinAll.cons _ ?_ ?_ ?_
   rotate_left 1
   ·intro gg L a x hLi haft hS hK
    have t0 := (hK.old 0 (by kernel_rfl)).trans o0
    (try dsimp only at t0)
    refine go_in (wanted_all rfl) ?_
    intro K hk
    clear haft hK hLi
    go_simp
    exact hk.out gg x (fun _ _ => rfl) (hS.go rfl)
   ·intro i hi; exact Or.inl (fun _ _ _ => rfl)
   refine' LinAll.cons _ ?_ ?_ ?_
   rotate_left 1
   ·intro gg L a x hLi haft hS hK
    have t1 := (hK.old 1 (by kernel_rfl)).trans o1
    (try dsimp only at t1)
    refine go_in (wanted_all rfl) ?_
    intro K hk
    clear haft hK hLi
    go_simp
    exact hk.out gg x (fun _ _ => rfl) (hS.go rfl)
   ·intro i hi; exact Or.inl (fun _ _ _ => rfl)
   refine' LinAll.cons _ ?_ ?_ ?_
   rotate_left 1
   ·intro gg L a x hLi haft hS hK
    have t8 := (hK.old 8 (by kernel_rfl)).trans o8
    (try dsimp only at t8)
    refine go_in (wanted_all rfl) ?_
    intro K hk
    clear haft hK hLi
    go_simp
    exact hk.out gg x (fun _ _ => rfl) (hS.go rfl)
   ·intro i hi; exact Or.inl (fun _ _ _ => rfl)
   refine' LinAll.cons _ ?_ ?_ ?_
   rotate_left 1
   ·intro gg L a x hLi haft hS hK
    have t16 := hK.nw haft 2 1 16 rfl (by kernel_rfl)
    have t17 := hK.nw haft 3 0 17 rfl (by kernel_rfl)
    (try dsimp only at t16 t17)
    refine go_in (wanted_all rfl) ?_
    intro K hk
    clear haft hK hLi
    go_simp
    exact hk.out gg x (fun _ _ => rfl) (hS.go rfl)
   ·intro i hi; exact Or.inl (fun _ _ _ => rfl)
   refine' LinAll.cons _ ?_ ?_ ?_
   rotate_left 1
   ·intro gg L a x hLi haft hS hK
    have t18 := hK.nw haft 4 0 18 rfl (by kernel_rfl)
    (try dsimp only at t18)
    have hx0 := hS.a0 (off_b hS.r5 hLi)
    have cX : x.cell? ⟨ra, oa + k, none⟩ = some (.int .i64 x1) := by rw [hx0]; exact hca
    clear hx0
    refine go_in (wanted_all rfl) ?_
    intro K hk
    clear haft hK hLi
    go_simp
    exact hk.out gg x (fun _ _ => rfl) (hS.go rfl)
   ·intro i hi; exact Or.inl (fun _ _ _ => rfl)
   refine' LinAll.cons _ ?_ ?_ ?_
   rotate_left 1
   ·intro gg L a x hLi haft hS hK
    have t2 := (hK.old 2 (by kernel_rfl)).trans o2
    (try dsimp only at t2)
    refine go_in (wanted_all rfl) ?_
    intro K hk
    clear haft hK hLi
    go_simp
    exact hk.out gg x (fun _ _ => rfl) (hS.go rfl)
   ·intro i hi; exact Or.inl (fun _ _ _ => rfl)
   refine' LinAll.cons _ ?_ ?_ ?_
   rotate_left 1
   ·intro gg L a x hLi haft hS hK
    have t8 := (hK.old 8 (by kernel_rfl)).trans o8
    (try dsimp only at t8)
    refine go_in (wanted_all rfl) ?_
    intro K hk
    clear haft hK hLi
    go_simp
    exact hk.out gg x (fun _ _ => rfl) (hS.go rfl)
   ·intro i hi; exact Or.inl (fun _ _ _ => rfl)
   refine' LinAll.cons _ ?_ ?_ ?_
   rotate_left 1
   ·intro gg L a x hLi haft hS hK
    have t20 := hK.nw haft 6 1 20 rfl (by kernel_rfl)
    have t21 := hK.nw haft 7 0 21 rfl (by kernel_rfl)
    (try dsimp only at t20 t21)
    refine go_in (wanted_all rfl) ?_
    intro K hk
    clear haft hK hLi
    go_simp
    exact hk.out gg x (fun _ _ => rfl) (hS.go rfl)
   ·intro i hi; exact Or.inl (fun _ _ _ => rfl)
   refine' LinAll.cons _ ?_ ?_ ?_
   rotate_left 1
   ·intro gg L a x hLi haft hS hK
    have t22 := hK.nw haft 8 0 22 rfl (by kernel_rfl)
    (try dsimp only at t22)
    have hx0 := hS.a0 (off_b hS.r9 hLi)
    have cX : x.cell? ⟨rb, ob + k, none⟩ = some (.int .i64 x2) := by rw [hx0]; exact hcb
    clear hx0
    refine go_in (wanted_all rfl) ?_
    intro K hk
    clear haft hK hLi
    go_simp
    exact hk.out gg x (fun _ _ => rfl) (hS.go rfl)
   ·intro i hi; exact Or.inl (fun _ _ _ => rfl)
   refine' LinAll.cons _ ?_ ?_ ?_
   rotate_left 1
   ·intro gg L a x hLi haft hS hK
    have t15 := hK.nw haft 1 8 15 rfl (by kernel_rfl)
    have t19 := hK.nw haft 5 4 19 rfl (by kernel_rfl)
    have t23 := hK.nw haft 9 0 23 rfl (by kernel_rfl)
    (try dsimp only at t15 t19 t23)
    refine go_in (wanted_all rfl) ?_
    intro K hk
    have h5 := waits haft 5 (by kernel_rfl)
    have h9 := waits haft 9 (by kernel_rfl)
    have hx0 := hS.a0 hLi
    have HVX : Hid _ := HCLd.out x hx0
    clear haft hK hx0
    go_simp
    refine Calls.mono HVX.out ?_
    rintro ev y ⟨rfl, hy⟩
    exact hk.out gg y (fun _ _ => rfl) (hS.call hLi h5 h9 hy)
   ·intro i hi; exact Or.inl (fun _ _ _ => rfl)
   refine LinAll.cons (fun gg => .slice (some ⟨gg 11, 0, none⟩) 1 1) ?_ ?_ ?_
   ·intro gg L a x hLi haft hS hK
    have t24 := hK.nw haft 10 0 24 rfl (by kernel_rfl)
    (try dsimp only at t24)
    refine go_in (wanted_all rfl) ?_
    intro K hk
    have h10 := waits haft 10 (by kernel_rfl)
    clear haft hK
    go_simp
    have hq := hk.out (updG gg 11 x.heap.size) _ (updG_al (by rfl)) (hS.built hLi h10)
    dsimp only at hq
    rw [updG_eq] at hq
    exact hq
   ·intro i hi
    simp only [List.mem_cons, List.not_mem_nil, or_false] at hi
    rcases hi with rfl | rfl
    ·exact Or.inr (by kernel_rfl)
    ·exact Or.inl (fun g g' h => by simp only [h 11 (by decide)])
   refine LinAll.cons (fun gg => sl (O.length + 1) (gg 12)) ?_ ?_ ?_
   ·intro gg L a x hLi haft hS hK
    have t14 := hK.nw haft 0 11 14 rfl (by kernel_rfl)
    have t25 := hK.nw haft 11 0 25 rfl (by kernel_rfl)
    (try dsimp only at t14 t25)
    refine go_in (wanted_all rfl) ?_
    intro K hk
    have h11 := waits haft 11 (by kernel_rfl)
    obtain ⟨y, hy, hxy, hgy⟩ := hS.a2 h11 hLi
    have hys : wr.heap.size ≤ y.heap.size := by obtain ⟨F2, -, hc⟩ := hy; exact hc.size
    have hrow : Is' x w.heap.size (.slice aO k cO) O := row_own HO.out (fun z hz => by
      obtain ⟨F2, -, hc⟩ := hy
      have hzl := (HO.out.lt z hz).2
      rw [hxy, heap_alloc_old y _ (by omega)]
      exact hc.block z hzl (HSEP.out z hz))
    have hbl : x.heap[gg 11]? = some (.cells #[.int .i64 p.1] 3 (0, 0)) := by rw [hxy, hgy]; exact heap_alloc_new y _
    have hxs : w.heap.size ≤ x.heap.size := by rw [hxy]; simp; omega
    refine wp_append_at _ (.tmp 14) (.tmp 25) 81 rfl w.heap.size 3 ti _ 1 8 underWord HI.out.1 HI.out.2.1 HI.out.2.2.1 HI.out.2.2.2 rfl (by decide) _ O.length _ (eval_tmp t14) hrow ⟨gg 11, 0, none⟩ 1 1 [.int .i64 p.1] (eval_tmp t25) rfl (fun j u hj => by
      have e : (⟨gg 11, 0, none⟩ : Addr).add j = ⟨gg 11, j, none⟩ := by simp [Addr.add]; try (intro hq; exact hq.symm)
      rw [e]; exact cell_of hbl j (by simpa using hj)) (ones [p.1]) (by rw [HLN.out]; unfold maxLen; omega) (by rw [HLN.out]; omega) hxs ?_
    intro v' z hown hgrow hat
    obtain ⟨pp, rfl⟩ := sl_own hown (by omega)
    have hown' : Is' z w.heap.size (sl (O.length + 1) pp) (O ++ [p.1]) := by unfold Is'; rw [List.length_append, List.map_append]; exact hown
    have hq := hk.out (updG gg 12 pp) z (updG_al (by rfl)) (hS.app h11 (EQ3.of hy hxy HC1.out HO.out HSEP.out hown' hgrow hat))
    dsimp only at hq
    rw [updG_eq] at hq
    exact hq
   ·intro i hi
    simp only [List.mem_cons, List.not_mem_nil, or_false] at hi
    rcases hi with rfl | rfl
    ·exact Or.inl (fun g g' h => by simp only [h 12 (by decide)])
    ·exact Or.inr (by kernel_rfl)
   refine' LinAll.cons _ ?_ ?_ ?_
   rotate_left 1
   ·intro gg L a x hLi haft hS hK
    have t26 := hK.nw haft 12 0 26 rfl (by kernel_rfl)
    (try dsimp only at t26)
    unfold sl at t26
    refine go_in (wanted_all rfl) ?_
    intro K hk
    clear haft hK hLi
    go_simp
    exact hk.out gg x (fun _ _ => rfl) (hS.go rfl)
   ·intro i hi
    simp only [List.mem_cons, List.not_mem_nil, or_false] at hi
    rcases hi with rfl | rfl
    ·exact Or.inl (fun g g' h => by simp only [h 12 (by decide)])
    ·exact Or.inr (by kernel_rfl)
   refine LinAll.nil fun gg x hS => ?_
   subst ha0
   simp only [Act.put, List.setIfInBounds_toArray, List.set_cons_zero, List.set_cons_succ]
   clear o0 o1 o2 o7 o8
   have HE : Hid _ := hS.a3 rfl
   clear hS
   unfold sl at HE ⊢
   go_wp2_with fail
   refine ⟨⟨k + 1, by omega, by go_num, ?_⟩, by simp [intOf]; omega⟩
   obtain ⟨F2, q1, q2, q3, q4⟩ := HE.out
   unfold Hid
   rw [HST.out]
   exact ⟨F2, q1, q2, q3, q4⟩
  ·obtain rfl : k = n := by omega
   have hkI : ¬ (k : Int) < (k : Int) := by omega
   have HW : Hid (∃ F', Wd wr (FG F' gs) u7 q.1 ∧ Gn wr F' gs g mo q.2 ∧ Ch w wr (FG F gs) (FG F' gs)) := by
    refine ⟨F1, ?_, by rw [HQ.out]; exact hG1, hC1⟩
    rw [HQ.out]
    rcases hO1.2 with ⟨e, h0⟩ | ⟨r, cap, cur, e, hb, hgg, hc, hm, hs, ht⟩
    ·have hL : (eachK G s A B k).1 = [] := List.eq_nil_of_length_eq_zero h0
     rw [hL, e]
     exact Wd.nil wr _
    ·refine ⟨_, cap, e, hc, by rw [eachK_len]; exact h5, (fun e => by cases e), ?_⟩
     by_cases hL : (eachK G s A B k).1 = []
     ·exact Or.inl hL
     ·obtain ⟨r', c', e2, -, -, hLi⟩ := hO1.li hL
      rw [e] at e2
      injection e2 with e2
      injection e2 with e2
      injection e2 with e2
      subst e2
      exact Or.inr ⟨r, 0, rfl, (Array.getElem?_eq_some_iff.1 hgg).1, hsep1 r (by rw [e]; rfl), hLi⟩
   clear hG1 hC1 hO1 hsep1
   go_wp2_with fail
   go_ret
   exact ⟨_, rfl, HW.out⟩
theorem each_or {w : World} {F : Nat → Prop} {gs g mo : Nat} {s : Gz} (h : Gn w F gs g mo s) {G : Gz → Int → Int → Int × Gz} (hG : GK G s) {ua ub : Value} {A B : List Int} (hA : Wd w (FG F gs) ua A) (hB : Wd w (FG F gs) ub B) (hl : A.length ≤ B.length) (oA : ∀ x ∈ A, OkG s x) (oB : ∀ x ∈ B, OkG s x)
  (hg : ∀ wx F' s' a b, Gn wx F' gs g mo s' → Pg s.ks s'.ks → OkG s' a → OkG s' b → Ch w wx (FG F gs) (FG F' gs) → Calls Tryz.prog 128 #[.pointer (some ⟨gs, 0, none⟩), .int .i64 a, .int .i64 b] wx (GD wx F' gs g mo (G s' a b))) :
  Calls Tryz.prog 93 #[.func (.func 128) #[.pointer (some ⟨gs, 0, none⟩)] #[], ua, ub] w (WG w F gs g mo (eachF G s A B)) := by
 obtain ⟨ti, ht0, hz0, hz1, hz2⟩ := info_any infoInt
 have HI : Hid _ := (⟨ht0, hz0, hz1, hz2⟩ : Tryz.prog.info? 3 = some ti ∧ ti.zero = _ ∧ ti.size = 1 ∧ ti.bytes = 8)
 have H : Hid _ := h
 have HG : Hid _ := hg
 have HA : Hid _ := hA
 have HB : Hid _ := hB
 have HOK : Hid (∀ k, k ≤ A.length → Pg s.ks (eachK G s A B k).2.ks ∧ ∀ x ∈ (eachK G s A B k).1, OkG (eachK G s A B k).2 x) := fun k hk => eachK_ok hG h.pos oA oB hl k hk
 have HOA : Hid (∀ k, k < A.length → OkG s (A.getD k 0) ∧ OkG s (B.getD k 0)) := fun k hk => ⟨oA _ (getD_mem hk), oB _ (getD_mem (by omega))⟩
 obtain ⟨aa, ca, rfl, -, h5⟩ := hA.sl
 obtain ⟨ab, cb, rfl, -, h5b⟩ := hB.sl
 obtain ⟨q, hq⟩ : ∃ q, q = eachF G s A B := ⟨_, rfl⟩
 rw [← hq]
 have HQ : Hid (q = eachK G s A B A.length) := hq
 obtain ⟨n, hn⟩ : ∃ n, n = A.length := ⟨_, rfl⟩
 obtain ⟨nb, hnb⟩ : ∃ n, n = B.length := ⟨_, rfl⟩
 have HN : Hid _ := hn
 have HNB : Hid _ := hnb
 rw [← hn] at h5 HQ hl ⊢
 rw [← hnb] at hl ⊢
 clear h hg hA hB hG oA oB hq hn hnb ht0 hz0 hz1 hz2 h5b
 go_enter Tryz.func93, Tryz.ntmps93
 go_wp2_with fail
 go_loopw [7, 11] (fun v i wr => ∃ k : Nat, k ≤ n ∧ i = .int .i64 (k : Int) ∧ Hid (∃ F1, Gn wr F1 gs g mo (eachK G s A B k).2 ∧ Ch w wr (FG F gs) (FG F1 gs) ∧ Is' wr w.heap.size v (eachK G s A B k).1 ∧ ∀ q, v.ownBlock = some q → ¬ FG F1 gs q)) (fun v i wr => n - (intOf i).toNat)
 case atStart => exact ⟨0, Nat.zero_le _, rfl, F, H.out, Ch.refl _ _, World.ownsRow_nil _ _ _ _, fun q e => by cases e⟩
 case round =>
  obtain ⟨k, hk, rfl, F1, hG1, hC1, hO1, hsep1⟩ := hrel
  by_cases hkn : k < n
  ·obtain ⟨ra, oa, ca', ea, hra, hca⟩ := (HA.out.ch hC1).cell (k := k) (by rw [← HN.out]; exact hkn)
   obtain ⟨rb, ob, cb', eb, hrb, hcb⟩ := (HB.out.ch hC1).cell (k := k) (by rw [← HNB.out]; omega)
   rw [← HN.out] at ea
   rw [← HNB.out] at eb
   injection ea with ea1 ea2 ea3
   injection eb with eb1 eb2 eb3
   obtain ⟨k1, k2⟩ := HOK.out k (by rw [← HN.out]; exact hk)
   obtain ⟨m1, m2⟩ := HOA.out k (by rw [← HN.out]; exact hkn)
   have HST : Hid (eachK G s A B (k + 1) = ((eachK G s A B k).1 ++ [(G (eachK G s A B k).2 (A.getD k 0) (B.getD k 0)).1], (G (eachK G s A B k).2 (A.getD k 0) (B.getD k 0)).2)) := rfl
   have hlen := eachK_len (G := G) (s := s) (A := A) (B := B) k
   have HCL : Hid _ := HG.out wr F1 _ _ _ hG1 k1 (m1.grow k1) (m2.grow k1) hC1
   obtain ⟨x1, hx1⟩ : ∃ x, x = A.getD k 0 := ⟨_, rfl⟩
   obtain ⟨x2, hx2⟩ : ∃ x, x = B.getD k 0 := ⟨_, rfl⟩
   rw [← hx1] at hca HST HCL
   rw [← hx2] at hcb HST HCL
   obtain ⟨p, hp⟩ : ∃ p, p = G (eachK G s A B k).2 x1 x2 := ⟨_, rfl⟩
   rw [← hp] at HST HCL
   obtain ⟨O, hO⟩ : ∃ O, O = (eachK G s A B k).1 := ⟨_, rfl⟩
   rw [← hO] at hO1 HST hlen
   obtain ⟨aO, cO, eO, -⟩ := hO1.any
   rw [hlen] at eO
   subst eO
   have HO : Hid (Is' wr w.heap.size (.slice aO k cO) O) := hO1
   have HC1 : Hid (Ch w wr (FG F gs) (FG F1 gs)) := hC1
   have HSEP : Hid (∀ q, (Value.slice aO k cO).ownBlock = some q → ¬ FG F1 gs q) := hsep1
   have HG1 : Hid _ := hG1
   have hws : w.heap.size ≤ wr.heap.size := hC1.size
   have HLN : Hid (O.length = k) := hlen
   have HCLd : Hid (∀ wx, wx = wr.drew → Calls Tryz.prog 128 #[.pointer (some ⟨gs, 0, none⟩), .int .i64 x1, .int .i64 x2] wx fun ev w' => ev = .returned (.int .i64 p.1) ∧ EQ1 wr F1 gs g mo p w') := fun wx hwx => by
    have hb : Below wr.heap.size wr wx := by rw [hwx]; exact ⟨rfl, rfl, rfl, Nat.le_refl _, fun _ _ => rfl⟩
    have := HG.out wx F1 _ x1 x2 (hG1.below hb) k1 (by rw [hx1]; exact m1.grow k1) (by rw [hx2]; exact m2.grow k1) (hC1.trans (Ch.of_below _ hb))
    rw [← hp] at this
    refine this.mono ?_
    rintro ev w2 ⟨rfl, F2, q1, q2⟩
    exact ⟨rfl, F2, q1, (Ch.of_below (FG F1 gs) hb).trans q2⟩
   rw [ea1, eb1]
   have hkI : (k : Int) < (n : Int) := by omega
   have hkB : (k : Int) < (nb : Int) := by omega
   clear ea1 ea2 ea3 eb1 eb2 eb3 hG1 hC1 hO1 hsep1 k1 k2 m1 m2 hx1 hx2 hp hO hlen HCL
   go_wp2_with fail
   refine wp_named fun a0 ha0 => ?_
   have o0 := old_at ha0 (t := 0) rfl
   have o1 := old_at ha0 (t := 1) rfl
   have o2 := old_at ha0 (t := 2) rfl
   have o7 := old_at ha0 (t := 7) rfl
   have o8 := old_at ha0 (t := 8) rfl
   refine wp_region_lin (S := ES w F wr F1 gs g mo p w.heap.size O) [11, 12] (fun _ => 0) (by kernel_rfl) (by kernel_rfl) (by rw [← ha0]; kernel_rfl) (ES.start) ?_
   refine' LinAll.cons _ ?_ ?_ ?_
   rotate_left 1
   ·intro gg L a x hLi haft hS hK
    have hL7 : L 13 = false := off_b (fun e => waits (hK.cl 13 _ rfl e) 0 (by kernel_rfl)) hLi
    have t7 := (hK.pend1 7 13 (by kernel_rfl) hL7).trans o7
    (try dsimp only at t7)
    refine go_in (wanted_all rfl) ?_
    intro K hk
    clear haft hK hLi
    go_simp
    exact hk.out gg x (fun _ _ => rfl) (hS.go rfl)
   ·intro i hi; exact Or.inl (fun _ _ _ => rfl)
   refine' LinAll.cons _ ?_ ?_ ?_
   rotate_left 1
   ·intro gg L a x hLi haft hS hK
    have t0 := (hK.old 0 (by kernel_rfl)).trans o0
    (try dsimp only at t0)
    refine go_in (wanted_all rfl) ?_
    intro K hk
    clear haft hK hLi
    go_simp
    exact hk.out gg x (fun _ _ => rfl) (hS.go rfl)
   ·intro i hi; exact Or.inl (fun _ _ _ => rfl)
   refine' LinAll.cons _ ?_ ?_ ?_
   rotate_left 1
   ·intro gg L a x hLi haft hS hK
    have t1 := (hK.old 1 (by kernel_rfl)).trans o1
    (try dsimp only at t1)
    refine go_in (wanted_all rfl) ?_
    intro K hk
    clear haft hK hLi
    go_simp
    exact hk.out gg x (fun _ _ => rfl) (hS.go rfl)
   ·intro i hi; exact Or.inl (fun _ _ _ => rfl)
   refine' LinAll.cons _ ?_ ?_ ?_
   rotate_left 1
   ·intro gg L a x hLi haft hS hK
    have t8 := (hK.old 8 (by kernel_rfl)).trans o8
    (try dsimp only at t8)
    refine go_in (wanted_all rfl) ?_
    intro K hk
    clear haft hK hLi
    go_simp
    exact hk.out gg x (fun _ _ => rfl) (hS.go rfl)
   ·intro i hi; exact Or.inl (fun _ _ _ => rfl)
   refine' LinAll.cons _ ?_ ?_ ?_
   rotate_left 1
   ·intro gg L a x hLi haft hS hK
    have t16 := hK.nw haft 2 1 16 rfl (by kernel_rfl)
    have t17 := hK.nw haft 3 0 17 rfl (by kernel_rfl)
    (try dsimp only at t16 t17)
    refine go_in (wanted_all rfl) ?_
    intro K hk
    clear haft hK hLi
    go_simp
    exact hk.out gg x (fun _ _ => rfl) (hS.go rfl)
   ·intro i hi; exact Or.inl (fun _ _ _ => rfl)
   refine' LinAll.cons _ ?_ ?_ ?_
   rotate_left 1
   ·intro gg L a x hLi haft hS hK
    have t18 := hK.nw haft 4 0 18 rfl (by kernel_rfl)
    (try dsimp only at t18)
    have hx0 := hS.a0 (off_b hS.r5 hLi)
    have cX : x.cell? ⟨ra, oa + k, none⟩ = some (.int .i64 x1) := by rw [hx0]; exact hca
    clear hx0
    refine go_in (wanted_all rfl) ?_
    intro K hk
    clear haft hK hLi
    go_simp
    exact hk.out gg x (fun _ _ => rfl) (hS.go rfl)
   ·intro i hi; exact Or.inl (fun _ _ _ => rfl)
   refine' LinAll.cons _ ?_ ?_ ?_
   rotate_left 1
   ·intro gg L a x hLi haft hS hK
    have t2 := (hK.old 2 (by kernel_rfl)).trans o2
    (try dsimp only at t2)
    refine go_in (wanted_all rfl) ?_
    intro K hk
    clear haft hK hLi
    go_simp
    exact hk.out gg x (fun _ _ => rfl) (hS.go rfl)
   ·intro i hi; exact Or.inl (fun _ _ _ => rfl)
   refine' LinAll.cons _ ?_ ?_ ?_
   rotate_left 1
   ·intro gg L a x hLi haft hS hK
    have t8 := (hK.old 8 (by kernel_rfl)).trans o8
    (try dsimp only at t8)
    refine go_in (wanted_all rfl) ?_
    intro K hk
    clear haft hK hLi
    go_simp
    exact hk.out gg x (fun _ _ => rfl) (hS.go rfl)
   ·intro i hi; exact Or.inl (fun _ _ _ => rfl)
   refine' LinAll.cons _ ?_ ?_ ?_
   rotate_left 1
   ·intro gg L a x hLi haft hS hK
    have t20 := hK.nw haft 6 1 20 rfl (by kernel_rfl)
    have t21 := hK.nw haft 7 0 21 rfl (by kernel_rfl)
    (try dsimp only at t20 t21)
    refine go_in (wanted_all rfl) ?_
    intro K hk
    clear haft hK hLi
    go_simp
    exact hk.out gg x (fun _ _ => rfl) (hS.go rfl)
   ·intro i hi; exact Or.inl (fun _ _ _ => rfl)
   refine' LinAll.cons _ ?_ ?_ ?_
   rotate_left 1
   ·intro gg L a x hLi haft hS hK
    have t22 := hK.nw haft 8 0 22 rfl (by kernel_rfl)
    (try dsimp only at t22)
    have hx0 := hS.a0 (off_b hS.r9 hLi)
    have cX : x.cell? ⟨rb, ob + k, none⟩ = some (.int .i64 x2) := by rw [hx0]; exact hcb
    clear hx0
    refine go_in (wanted_all rfl) ?_
    intro K hk
    clear haft hK hLi
    go_simp
    exact hk.out gg x (fun _ _ => rfl) (hS.go rfl)
   ·intro i hi; exact Or.inl (fun _ _ _ => rfl)
   refine' LinAll.cons _ ?_ ?_ ?_
   rotate_left 1
   ·intro gg L a x hLi haft hS hK
    have t15 := hK.nw haft 1 8 15 rfl (by kernel_rfl)
    have t19 := hK.nw haft 5 4 19 rfl (by kernel_rfl)
    have t23 := hK.nw haft 9 0 23 rfl (by kernel_rfl)
    (try dsimp only at t15 t19 t23)
    refine go_in (wanted_all rfl) ?_
    intro K hk
    have h5 := waits haft 5 (by kernel_rfl)
    have h9 := waits haft 9 (by kernel_rfl)
    have hx0 := hS.a0 hLi
    have HVX : Hid _ := HCLd.out x hx0
    clear haft hK hx0
    go_simp
    refine Calls.mono HVX.out ?_
    rintro ev y ⟨rfl, hy⟩
    exact hk.out gg y (fun _ _ => rfl) (hS.call hLi h5 h9 hy)
   ·intro i hi; exact Or.inl (fun _ _ _ => rfl)
   refine LinAll.cons (fun gg => .slice (some ⟨gg 11, 0, none⟩) 1 1) ?_ ?_ ?_
   ·intro gg L a x hLi haft hS hK
    have t24 := hK.nw haft 10 0 24 rfl (by kernel_rfl)
    (try dsimp only at t24)
    refine go_in (wanted_all rfl) ?_
    intro K hk
    have h10 := waits haft 10 (by kernel_rfl)
    clear haft hK
    go_simp
    have hq := hk.out (updG gg 11 x.heap.size) _ (updG_al (by rfl)) (hS.built hLi h10)
    dsimp only at hq
    rw [updG_eq] at hq
    exact hq
   ·intro i hi
    simp only [List.mem_cons, List.not_mem_nil, or_false] at hi
    rcases hi with rfl | rfl
    ·exact Or.inr (by kernel_rfl)
    ·exact Or.inl (fun g g' h => by simp only [h 11 (by decide)])
   refine LinAll.cons (fun gg => sl (O.length + 1) (gg 12)) ?_ ?_ ?_
   ·intro gg L a x hLi haft hS hK
    have t14 := hK.nw haft 0 11 14 rfl (by kernel_rfl)
    have t25 := hK.nw haft 11 0 25 rfl (by kernel_rfl)
    (try dsimp only at t14 t25)
    refine go_in (wanted_all rfl) ?_
    intro K hk
    have h11 := waits haft 11 (by kernel_rfl)
    obtain ⟨y, hy, hxy, hgy⟩ := hS.a2 h11 hLi
    have hys : wr.heap.size ≤ y.heap.size := by obtain ⟨F2, -, hc⟩ := hy; exact hc.size
    have hrow : Is' x w.heap.size (.slice aO k cO) O := row_own HO.out (fun z hz => by
      obtain ⟨F2, -, hc⟩ := hy
      have hzl := (HO.out.lt z hz).2
      rw [hxy, heap_alloc_old y _ (by omega)]
      exact hc.block z hzl (HSEP.out z hz))
    have hbl : x.heap[gg 11]? = some (.cells #[.int .i64 p.1] 3 (0, 0)) := by rw [hxy, hgy]; exact heap_alloc_new y _
    have hxs : w.heap.size ≤ x.heap.size := by rw [hxy]; simp; omega
    refine wp_append_at _ (.tmp 14) (.tmp 25) 81 rfl w.heap.size 3 ti _ 1 8 underWord HI.out.1 HI.out.2.1 HI.out.2.2.1 HI.out.2.2.2 rfl (by decide) _ O.length _ (eval_tmp t14) hrow ⟨gg 11, 0, none⟩ 1 1 [.int .i64 p.1] (eval_tmp t25) rfl (fun j u hj => by
      have e : (⟨gg 11, 0, none⟩ : Addr).add j = ⟨gg 11, j, none⟩ := by simp [Addr.add]; try (intro hq; exact hq.symm)
      rw [e]; exact cell_of hbl j (by simpa using hj)) (ones [p.1]) (by rw [HLN.out]; unfold maxLen; omega) (by rw [HLN.out]; omega) hxs ?_
    intro v' z hown hgrow hat
    obtain ⟨pp, rfl⟩ := sl_own hown (by omega)
    have hown' : Is' z w.heap.size (sl (O.length + 1) pp) (O ++ [p.1]) := by unfold Is'; rw [List.length_append, List.map_append]; exact hown
    have hq := hk.out (updG gg 12 pp) z (updG_al (by rfl)) (hS.app h11 (EQ3.of hy hxy HC1.out HO.out HSEP.out hown' hgrow hat))
    dsimp only at hq
    rw [updG_eq] at hq
    exact hq
   ·intro i hi
    simp only [List.mem_cons, List.not_mem_nil, or_false] at hi
    rcases hi with rfl | rfl
    ·exact Or.inl (fun g g' h => by simp only [h 12 (by decide)])
    ·exact Or.inr (by kernel_rfl)
   refine' LinAll.cons _ ?_ ?_ ?_
   rotate_left 1
   ·intro gg L a x hLi haft hS hK
    have t26 := hK.nw haft 12 0 26 rfl (by kernel_rfl)
    (try dsimp only at t26)
    unfold sl at t26
    refine go_in (wanted_all rfl) ?_
    intro K hk
    clear haft hK hLi
    go_simp
    exact hk.out gg x (fun _ _ => rfl) (hS.go rfl)
   ·intro i hi
    simp only [List.mem_cons, List.not_mem_nil, or_false] at hi
    rcases hi with rfl | rfl
    ·exact Or.inl (fun g g' h => by simp only [h 12 (by decide)])
    ·exact Or.inr (by kernel_rfl)
   refine LinAll.nil fun gg x hS => ?_
   subst ha0
   simp only [Act.put, List.setIfInBounds_toArray, List.set_cons_zero, List.set_cons_succ]
   clear o0 o1 o2 o7 o8
   have HE : Hid _ := hS.a3 rfl
   clear hS
   unfold sl at HE ⊢
   go_wp2_with fail
   refine ⟨⟨k + 1, by omega, by go_num, ?_⟩, by simp [intOf]; omega⟩
   obtain ⟨F2, q1, q2, q3, q4⟩ := HE.out
   unfold Hid
   rw [HST.out]
   exact ⟨F2, q1, q2, q3, q4⟩
  ·obtain rfl : k = n := by omega
   have hkI : ¬ (k : Int) < (k : Int) := by omega
   have HW : Hid (∃ F', Wd wr (FG F' gs) u7 q.1 ∧ Gn wr F' gs g mo q.2 ∧ Ch w wr (FG F gs) (FG F' gs)) := by
    refine ⟨F1, ?_, by rw [HQ.out]; exact hG1, hC1⟩
    rw [HQ.out]
    rcases hO1.2 with ⟨e, h0⟩ | ⟨r, cap, cur, e, hb, hgg, hc, hm, hs, ht⟩
    ·have hL : (eachK G s A B k).1 = [] := List.eq_nil_of_length_eq_zero h0
     rw [hL, e]
     exact Wd.nil wr _
    ·refine ⟨_, cap, e, hc, by rw [eachK_len]; exact h5, (fun e => by cases e), ?_⟩
     by_cases hL : (eachK G s A B k).1 = []
     ·exact Or.inl hL
     ·obtain ⟨r', c', e2, -, -, hLi⟩ := hO1.li hL
      rw [e] at e2
      injection e2 with e2
      injection e2 with e2
      injection e2 with e2
      subst e2
      exact Or.inr ⟨r, 0, rfl, (Array.getElem?_eq_some_iff.1 hgg).1, hsep1 r (by rw [e]; rfl), hLi⟩
   clear hG1 hC1 hO1 hsep1
   go_wp2_with fail
   go_ret
   exact ⟨_, rfl, HW.out⟩
theorem each_xor {w : World} {F : Nat → Prop} {gs g mo : Nat} {s : Gz} (h : Gn w F gs g mo s) {G : Gz → Int → Int → Int × Gz} (hG : GK G s) {ua ub : Value} {A B : List Int} (hA : Wd w (FG F gs) ua A) (hB : Wd w (FG F gs) ub B) (hl : A.length ≤ B.length) (oA : ∀ x ∈ A, OkG s x) (oB : ∀ x ∈ B, OkG s x)
  (hg : ∀ wx F' s' a b, Gn wx F' gs g mo s' → Pg s.ks s'.ks → OkG s' a → OkG s' b → Ch w wx (FG F gs) (FG F' gs) → Calls Tryz.prog 129 #[.pointer (some ⟨gs, 0, none⟩), .int .i64 a, .int .i64 b] wx (GD wx F' gs g mo (G s' a b))) :
  Calls Tryz.prog 93 #[.func (.func 129) #[.pointer (some ⟨gs, 0, none⟩)] #[], ua, ub] w (WG w F gs g mo (eachF G s A B)) := by
 obtain ⟨ti, ht0, hz0, hz1, hz2⟩ := info_any infoInt
 have HI : Hid _ := (⟨ht0, hz0, hz1, hz2⟩ : Tryz.prog.info? 3 = some ti ∧ ti.zero = _ ∧ ti.size = 1 ∧ ti.bytes = 8)
 have H : Hid _ := h
 have HG : Hid _ := hg
 have HA : Hid _ := hA
 have HB : Hid _ := hB
 have HOK : Hid (∀ k, k ≤ A.length → Pg s.ks (eachK G s A B k).2.ks ∧ ∀ x ∈ (eachK G s A B k).1, OkG (eachK G s A B k).2 x) := fun k hk => eachK_ok hG h.pos oA oB hl k hk
 have HOA : Hid (∀ k, k < A.length → OkG s (A.getD k 0) ∧ OkG s (B.getD k 0)) := fun k hk => ⟨oA _ (getD_mem hk), oB _ (getD_mem (by omega))⟩
 obtain ⟨aa, ca, rfl, -, h5⟩ := hA.sl
 obtain ⟨ab, cb, rfl, -, h5b⟩ := hB.sl
 obtain ⟨q, hq⟩ : ∃ q, q = eachF G s A B := ⟨_, rfl⟩
 rw [← hq]
 have HQ : Hid (q = eachK G s A B A.length) := hq
 obtain ⟨n, hn⟩ : ∃ n, n = A.length := ⟨_, rfl⟩
 obtain ⟨nb, hnb⟩ : ∃ n, n = B.length := ⟨_, rfl⟩
 have HN : Hid _ := hn
 have HNB : Hid _ := hnb
 rw [← hn] at h5 HQ hl ⊢
 rw [← hnb] at hl ⊢
 clear h hg hA hB hG oA oB hq hn hnb ht0 hz0 hz1 hz2 h5b
 go_enter Tryz.func93, Tryz.ntmps93
 go_wp2_with fail
 go_loopw [7, 11] (fun v i wr => ∃ k : Nat, k ≤ n ∧ i = .int .i64 (k : Int) ∧ Hid (∃ F1, Gn wr F1 gs g mo (eachK G s A B k).2 ∧ Ch w wr (FG F gs) (FG F1 gs) ∧ Is' wr w.heap.size v (eachK G s A B k).1 ∧ ∀ q, v.ownBlock = some q → ¬ FG F1 gs q)) (fun v i wr => n - (intOf i).toNat)
 case atStart => exact ⟨0, Nat.zero_le _, rfl, F, H.out, Ch.refl _ _, World.ownsRow_nil _ _ _ _, fun q e => by cases e⟩
 case round =>
  obtain ⟨k, hk, rfl, F1, hG1, hC1, hO1, hsep1⟩ := hrel
  by_cases hkn : k < n
  ·obtain ⟨ra, oa, ca', ea, hra, hca⟩ := (HA.out.ch hC1).cell (k := k) (by rw [← HN.out]; exact hkn)
   obtain ⟨rb, ob, cb', eb, hrb, hcb⟩ := (HB.out.ch hC1).cell (k := k) (by rw [← HNB.out]; omega)
   rw [← HN.out] at ea
   rw [← HNB.out] at eb
   injection ea with ea1 ea2 ea3
   injection eb with eb1 eb2 eb3
   obtain ⟨k1, k2⟩ := HOK.out k (by rw [← HN.out]; exact hk)
   obtain ⟨m1, m2⟩ := HOA.out k (by rw [← HN.out]; exact hkn)
   have HST : Hid (eachK G s A B (k + 1) = ((eachK G s A B k).1 ++ [(G (eachK G s A B k).2 (A.getD k 0) (B.getD k 0)).1], (G (eachK G s A B k).2 (A.getD k 0) (B.getD k 0)).2)) := rfl
   have hlen := eachK_len (G := G) (s := s) (A := A) (B := B) k
   have HCL : Hid _ := HG.out wr F1 _ _ _ hG1 k1 (m1.grow k1) (m2.grow k1) hC1
   obtain ⟨x1, hx1⟩ : ∃ x, x = A.getD k 0 := ⟨_, rfl⟩
   obtain ⟨x2, hx2⟩ : ∃ x, x = B.getD k 0 := ⟨_, rfl⟩
   rw [← hx1] at hca HST HCL
   rw [← hx2] at hcb HST HCL
   obtain ⟨p, hp⟩ : ∃ p, p = G (eachK G s A B k).2 x1 x2 := ⟨_, rfl⟩
   rw [← hp] at HST HCL
   obtain ⟨O, hO⟩ : ∃ O, O = (eachK G s A B k).1 := ⟨_, rfl⟩
   rw [← hO] at hO1 HST hlen
   obtain ⟨aO, cO, eO, -⟩ := hO1.any
   rw [hlen] at eO
   subst eO
   have HO : Hid (Is' wr w.heap.size (.slice aO k cO) O) := hO1
   have HC1 : Hid (Ch w wr (FG F gs) (FG F1 gs)) := hC1
   have HSEP : Hid (∀ q, (Value.slice aO k cO).ownBlock = some q → ¬ FG F1 gs q) := hsep1
   have HG1 : Hid _ := hG1
   have hws : w.heap.size ≤ wr.heap.size := hC1.size
   have HLN : Hid (O.length = k) := hlen
   have HCLd : Hid (∀ wx, wx = wr.drew → Calls Tryz.prog 129 #[.pointer (some ⟨gs, 0, none⟩), .int .i64 x1, .int .i64 x2] wx fun ev w' => ev = .returned (.int .i64 p.1) ∧ EQ1 wr F1 gs g mo p w') := fun wx hwx => by
    have hb : Below wr.heap.size wr wx := by rw [hwx]; exact ⟨rfl, rfl, rfl, Nat.le_refl _, fun _ _ => rfl⟩
    have := HG.out wx F1 _ x1 x2 (hG1.below hb) k1 (by rw [hx1]; exact m1.grow k1) (by rw [hx2]; exact m2.grow k1) (hC1.trans (Ch.of_below _ hb))
    rw [← hp] at this
    refine this.mono ?_
    rintro ev w2 ⟨rfl, F2, q1, q2⟩
    exact ⟨rfl, F2, q1, (Ch.of_below (FG F1 gs) hb).trans q2⟩
   rw [ea1, eb1]
   have hkI : (k : Int) < (n : Int) := by omega
   have hkB : (k : Int) < (nb : Int) := by omega
   clear ea1 ea2 ea3 eb1 eb2 eb3 hG1 hC1 hO1 hsep1 k1 k2 m1 m2 hx1 hx2 hp hO hlen HCL
   go_wp2_with fail
   refine wp_named fun a0 ha0 => ?_
   have o0 := old_at ha0 (t := 0) rfl
   have o1 := old_at ha0 (t := 1) rfl
   have o2 := old_at ha0 (t := 2) rfl
   have o7 := old_at ha0 (t := 7) rfl
   have o8 := old_at ha0 (t := 8) rfl
   refine wp_region_lin (S := ES w F wr F1 gs g mo p w.heap.size O) [11, 12] (fun _ => 0) (by kernel_rfl) (by kernel_rfl) (by rw [← ha0]; kernel_rfl) (ES.start) ?_
   refine' LinAll.cons _ ?_ ?_ ?_
   rotate_left 1
   ·intro gg L a x hLi haft hS hK
    have hL7 : L 13 = false := off_b (fun e => waits (hK.cl 13 _ rfl e) 0 (by kernel_rfl)) hLi
    have t7 := (hK.pend1 7 13 (by kernel_rfl) hL7).trans o7
    (try dsimp only at t7)
    refine go_in (wanted_all rfl) ?_
    intro K hk
    clear haft hK hLi
    go_simp
    exact hk.out gg x (fun _ _ => rfl) (hS.go rfl)
   ·intro i hi; exact Or.inl (fun _ _ _ => rfl)
   refine' LinAll.cons _ ?_ ?_ ?_
   rotate_left 1
   ·intro gg L a x hLi haft hS hK
    have t0 := (hK.old 0 (by kernel_rfl)).trans o0
    (try dsimp only at t0)
    refine go_in (wanted_all rfl) ?_
    intro K hk
    clear haft hK hLi
    go_simp
    exact hk.out gg x (fun _ _ => rfl) (hS.go rfl)
   ·intro i hi; exact Or.inl (fun _ _ _ => rfl)
   refine' LinAll.cons _ ?_ ?_ ?_
   rotate_left 1
   ·intro gg L a x hLi haft hS hK
    have t1 := (hK.old 1 (by kernel_rfl)).trans o1
    (try dsimp only at t1)
    refine go_in (wanted_all rfl) ?_
    intro K hk
    clear haft hK hLi
    go_simp
    exact hk.out gg x (fun _ _ => rfl) (hS.go rfl)
   ·intro i hi; exact Or.inl (fun _ _ _ => rfl)
   refine' LinAll.cons _ ?_ ?_ ?_
   rotate_left 1
   ·intro gg L a x hLi haft hS hK
    have t8 := (hK.old 8 (by kernel_rfl)).trans o8
    (try dsimp only at t8)
    refine go_in (wanted_all rfl) ?_
    intro K hk
    clear haft hK hLi
    go_simp
    exact hk.out gg x (fun _ _ => rfl) (hS.go rfl)
   ·intro i hi; exact Or.inl (fun _ _ _ => rfl)
   refine' LinAll.cons _ ?_ ?_ ?_
   rotate_left 1
   ·intro gg L a x hLi haft hS hK
    have t16 := hK.nw haft 2 1 16 rfl (by kernel_rfl)
    have t17 := hK.nw haft 3 0 17 rfl (by kernel_rfl)
    (try dsimp only at t16 t17)
    refine go_in (wanted_all rfl) ?_
    intro K hk
    clear haft hK hLi
    go_simp
    exact hk.out gg x (fun _ _ => rfl) (hS.go rfl)
   ·intro i hi; exact Or.inl (fun _ _ _ => rfl)
   refine' LinAll.cons _ ?_ ?_ ?_
   rotate_left 1
   ·intro gg L a x hLi haft hS hK
    have t18 := hK.nw haft 4 0 18 rfl (by kernel_rfl)
    (try dsimp only at t18)
    have hx0 := hS.a0 (off_b hS.r5 hLi)
    have cX : x.cell? ⟨ra, oa + k, none⟩ = some (.int .i64 x1) := by rw [hx0]; exact hca
    clear hx0
    refine go_in (wanted_all rfl) ?_
    intro K hk
    clear haft hK hLi
    go_simp
    exact hk.out gg x (fun _ _ => rfl) (hS.go rfl)
   ·intro i hi; exact Or.inl (fun _ _ _ => rfl)
   refine' LinAll.cons _ ?_ ?_ ?_
   rotate_left 1
   ·intro gg L a x hLi haft hS hK
    have t2 := (hK.old 2 (by kernel_rfl)).trans o2
    (try dsimp only at t2)
    refine go_in (wanted_all rfl) ?_
    intro K hk
    clear haft hK hLi
    go_simp
    exact hk.out gg x (fun _ _ => rfl) (hS.go rfl)
   ·intro i hi; exact Or.inl (fun _ _ _ => rfl)
   refine' LinAll.cons _ ?_ ?_ ?_
   rotate_left 1
   ·intro gg L a x hLi haft hS hK
    have t8 := (hK.old 8 (by kernel_rfl)).trans o8
    (try dsimp only at t8)
    refine go_in (wanted_all rfl) ?_
    intro K hk
    clear haft hK hLi
    go_simp
    exact hk.out gg x (fun _ _ => rfl) (hS.go rfl)
   ·intro i hi; exact Or.inl (fun _ _ _ => rfl)
   refine' LinAll.cons _ ?_ ?_ ?_
   rotate_left 1
   ·intro gg L a x hLi haft hS hK
    have t20 := hK.nw haft 6 1 20 rfl (by kernel_rfl)
    have t21 := hK.nw haft 7 0 21 rfl (by kernel_rfl)
    (try dsimp only at t20 t21)
    refine go_in (wanted_all rfl) ?_
    intro K hk
    clear haft hK hLi
    go_simp
    exact hk.out gg x (fun _ _ => rfl) (hS.go rfl)
   ·intro i hi; exact Or.inl (fun _ _ _ => rfl)
   refine' LinAll.cons _ ?_ ?_ ?_
   rotate_left 1
   ·intro gg L a x hLi haft hS hK
    have t22 := hK.nw haft 8 0 22 rfl (by kernel_rfl)
    (try dsimp only at t22)
    have hx0 := hS.a0 (off_b hS.r9 hLi)
    have cX : x.cell? ⟨rb, ob + k, none⟩ = some (.int .i64 x2) := by rw [hx0]; exact hcb
    clear hx0
    refine go_in (wanted_all rfl) ?_
    intro K hk
    clear haft hK hLi
    go_simp
    exact hk.out gg x (fun _ _ => rfl) (hS.go rfl)
   ·intro i hi; exact Or.inl (fun _ _ _ => rfl)
   refine' LinAll.cons _ ?_ ?_ ?_
   rotate_left 1
   ·intro gg L a x hLi haft hS hK
    have t15 := hK.nw haft 1 8 15 rfl (by kernel_rfl)
    have t19 := hK.nw haft 5 4 19 rfl (by kernel_rfl)
    have t23 := hK.nw haft 9 0 23 rfl (by kernel_rfl)
    (try dsimp only at t15 t19 t23)
    refine go_in (wanted_all rfl) ?_
    intro K hk
    have h5 := waits haft 5 (by kernel_rfl)
    have h9 := waits haft 9 (by kernel_rfl)
    have hx0 := hS.a0 hLi
    have HVX : Hid _ := HCLd.out x hx0
    clear haft hK hx0
    go_simp
    refine Calls.mono HVX.out ?_
    rintro ev y ⟨rfl, hy⟩
    exact hk.out gg y (fun _ _ => rfl) (hS.call hLi h5 h9 hy)
   ·intro i hi; exact Or.inl (fun _ _ _ => rfl)
   refine LinAll.cons (fun gg => .slice (some ⟨gg 11, 0, none⟩) 1 1) ?_ ?_ ?_
   ·intro gg L a x hLi haft hS hK
    have t24 := hK.nw haft 10 0 24 rfl (by kernel_rfl)
    (try dsimp only at t24)
    refine go_in (wanted_all rfl) ?_
    intro K hk
    have h10 := waits haft 10 (by kernel_rfl)
    clear haft hK
    go_simp
    have hq := hk.out (updG gg 11 x.heap.size) _ (updG_al (by rfl)) (hS.built hLi h10)
    dsimp only at hq
    rw [updG_eq] at hq
    exact hq
   ·intro i hi
    simp only [List.mem_cons, List.not_mem_nil, or_false] at hi
    rcases hi with rfl | rfl
    ·exact Or.inr (by kernel_rfl)
    ·exact Or.inl (fun g g' h => by simp only [h 11 (by decide)])
   refine LinAll.cons (fun gg => sl (O.length + 1) (gg 12)) ?_ ?_ ?_
   ·intro gg L a x hLi haft hS hK
    have t14 := hK.nw haft 0 11 14 rfl (by kernel_rfl)
    have t25 := hK.nw haft 11 0 25 rfl (by kernel_rfl)
    (try dsimp only at t14 t25)
    refine go_in (wanted_all rfl) ?_
    intro K hk
    have h11 := waits haft 11 (by kernel_rfl)
    obtain ⟨y, hy, hxy, hgy⟩ := hS.a2 h11 hLi
    have hys : wr.heap.size ≤ y.heap.size := by obtain ⟨F2, -, hc⟩ := hy; exact hc.size
    have hrow : Is' x w.heap.size (.slice aO k cO) O := row_own HO.out (fun z hz => by
      obtain ⟨F2, -, hc⟩ := hy
      have hzl := (HO.out.lt z hz).2
      rw [hxy, heap_alloc_old y _ (by omega)]
      exact hc.block z hzl (HSEP.out z hz))
    have hbl : x.heap[gg 11]? = some (.cells #[.int .i64 p.1] 3 (0, 0)) := by rw [hxy, hgy]; exact heap_alloc_new y _
    have hxs : w.heap.size ≤ x.heap.size := by rw [hxy]; simp; omega
    refine wp_append_at _ (.tmp 14) (.tmp 25) 81 rfl w.heap.size 3 ti _ 1 8 underWord HI.out.1 HI.out.2.1 HI.out.2.2.1 HI.out.2.2.2 rfl (by decide) _ O.length _ (eval_tmp t14) hrow ⟨gg 11, 0, none⟩ 1 1 [.int .i64 p.1] (eval_tmp t25) rfl (fun j u hj => by
      have e : (⟨gg 11, 0, none⟩ : Addr).add j = ⟨gg 11, j, none⟩ := by simp [Addr.add]; try (intro hq; exact hq.symm)
      rw [e]; exact cell_of hbl j (by simpa using hj)) (ones [p.1]) (by rw [HLN.out]; unfold maxLen; omega) (by rw [HLN.out]; omega) hxs ?_
    intro v' z hown hgrow hat
    obtain ⟨pp, rfl⟩ := sl_own hown (by omega)
    have hown' : Is' z w.heap.size (sl (O.length + 1) pp) (O ++ [p.1]) := by unfold Is'; rw [List.length_append, List.map_append]; exact hown
    have hq := hk.out (updG gg 12 pp) z (updG_al (by rfl)) (hS.app h11 (EQ3.of hy hxy HC1.out HO.out HSEP.out hown' hgrow hat))
    dsimp only at hq
    rw [updG_eq] at hq
    exact hq
   ·intro i hi
    simp only [List.mem_cons, List.not_mem_nil, or_false] at hi
    rcases hi with rfl | rfl
    ·exact Or.inl (fun g g' h => by simp only [h 12 (by decide)])
    ·exact Or.inr (by kernel_rfl)
   refine' LinAll.cons _ ?_ ?_ ?_
   rotate_left 1
   ·intro gg L a x hLi haft hS hK
    have t26 := hK.nw haft 12 0 26 rfl (by kernel_rfl)
    (try dsimp only at t26)
    unfold sl at t26
    refine go_in (wanted_all rfl) ?_
    intro K hk
    clear haft hK hLi
    go_simp
    exact hk.out gg x (fun _ _ => rfl) (hS.go rfl)
   ·intro i hi
    simp only [List.mem_cons, List.not_mem_nil, or_false] at hi
    rcases hi with rfl | rfl
    ·exact Or.inl (fun g g' h => by simp only [h 12 (by decide)])
    ·exact Or.inr (by kernel_rfl)
   refine LinAll.nil fun gg x hS => ?_
   subst ha0
   simp only [Act.put, List.setIfInBounds_toArray, List.set_cons_zero, List.set_cons_succ]
   clear o0 o1 o2 o7 o8
   have HE : Hid _ := hS.a3 rfl
   clear hS
   unfold sl at HE ⊢
   go_wp2_with fail
   refine ⟨⟨k + 1, by omega, by go_num, ?_⟩, by simp [intOf]; omega⟩
   obtain ⟨F2, q1, q2, q3, q4⟩ := HE.out
   unfold Hid
   rw [HST.out]
   exact ⟨F2, q1, q2, q3, q4⟩
  ·obtain rfl : k = n := by omega
   have hkI : ¬ (k : Int) < (k : Int) := by omega
   have HW : Hid (∃ F', Wd wr (FG F' gs) u7 q.1 ∧ Gn wr F' gs g mo q.2 ∧ Ch w wr (FG F gs) (FG F' gs)) := by
    refine ⟨F1, ?_, by rw [HQ.out]; exact hG1, hC1⟩
    rw [HQ.out]
    rcases hO1.2 with ⟨e, h0⟩ | ⟨r, cap, cur, e, hb, hgg, hc, hm, hs, ht⟩
    ·have hL : (eachK G s A B k).1 = [] := List.eq_nil_of_length_eq_zero h0
     rw [hL, e]
     exact Wd.nil wr _
    ·refine ⟨_, cap, e, hc, by rw [eachK_len]; exact h5, (fun e => by cases e), ?_⟩
     by_cases hL : (eachK G s A B k).1 = []
     ·exact Or.inl hL
     ·obtain ⟨r', c', e2, -, -, hLi⟩ := hO1.li hL
      rw [e] at e2
      injection e2 with e2
      injection e2 with e2
      injection e2 with e2
      subst e2
      exact Or.inr ⟨r, 0, rfl, (Array.getElem?_eq_some_iff.1 hgg).1, hsep1 r (by rw [e]; rfl), hLi⟩
   clear hG1 hC1 hO1 hsep1
   go_wp2_with fail
   go_ret
   exact ⟨_, rfl, HW.out⟩
theorem each_mux {w : World} {F : Nat → Prop} {gs g mo q4 q5 : Nat} {s : Gz} (h : Gn w F gs g mo s) {G : Gz → Int → Int → Int × Gz} (hG : GK G s) {ua ub : Value} {A B : List Int} (hA : Wd w (FG F gs) ua A) (hB : Wd w (FG F gs) ub B) (hl : A.length ≤ B.length) (oA : ∀ x ∈ A, OkG s x) (oB : ∀ x ∈ B, OkG s x)
  (hg : ∀ wx F' s' a b, Gn wx F' gs g mo s' → Pg s.ks s'.ks → OkG s' a → OkG s' b → Ch w wx (FG F gs) (FG F' gs) → Calls Tryz.prog 94 #[.int .i64 a, .int .i64 b, .pointer (some ⟨q4, 0, none⟩), .pointer (some ⟨q5, 0, none⟩)] wx (GD wx F' gs g mo (G s' a b))) :
  Calls Tryz.prog 93 #[.func (.func 94) #[] #[.pointer (some ⟨q4, 0, none⟩), .pointer (some ⟨q5, 0, none⟩)], ua, ub] w (WG w F gs g mo (eachF G s A B)) := by
 obtain ⟨ti, ht0, hz0, hz1, hz2⟩ := info_any infoInt
 have HI : Hid _ := (⟨ht0, hz0, hz1, hz2⟩ : Tryz.prog.info? 3 = some ti ∧ ti.zero = _ ∧ ti.size = 1 ∧ ti.bytes = 8)
 have H : Hid _ := h
 have HG : Hid _ := hg
 have HA : Hid _ := hA
 have HB : Hid _ := hB
 have HOK : Hid (∀ k, k ≤ A.length → Pg s.ks (eachK G s A B k).2.ks ∧ ∀ x ∈ (eachK G s A B k).1, OkG (eachK G s A B k).2 x) := fun k hk => eachK_ok hG h.pos oA oB hl k hk
 have HOA : Hid (∀ k, k < A.length → OkG s (A.getD k 0) ∧ OkG s (B.getD k 0)) := fun k hk => ⟨oA _ (getD_mem hk), oB _ (getD_mem (by omega))⟩
 obtain ⟨aa, ca, rfl, -, h5⟩ := hA.sl
 obtain ⟨ab, cb, rfl, -, h5b⟩ := hB.sl
 obtain ⟨q, hq⟩ : ∃ q, q = eachF G s A B := ⟨_, rfl⟩
 rw [← hq]
 have HQ : Hid (q = eachK G s A B A.length) := hq
 obtain ⟨n, hn⟩ : ∃ n, n = A.length := ⟨_, rfl⟩
 obtain ⟨nb, hnb⟩ : ∃ n, n = B.length := ⟨_, rfl⟩
 have HN : Hid _ := hn
 have HNB : Hid _ := hnb
 rw [← hn] at h5 HQ hl ⊢
 rw [← hnb] at hl ⊢
 clear h hg hA hB hG oA oB hq hn hnb ht0 hz0 hz1 hz2 h5b
 go_enter Tryz.func93, Tryz.ntmps93
 go_wp2_with fail
 go_loopw [7, 11] (fun v i wr => ∃ k : Nat, k ≤ n ∧ i = .int .i64 (k : Int) ∧ Hid (∃ F1, Gn wr F1 gs g mo (eachK G s A B k).2 ∧ Ch w wr (FG F gs) (FG F1 gs) ∧ Is' wr w.heap.size v (eachK G s A B k).1 ∧ ∀ q, v.ownBlock = some q → ¬ FG F1 gs q)) (fun v i wr => n - (intOf i).toNat)
 case atStart => exact ⟨0, Nat.zero_le _, rfl, F, H.out, Ch.refl _ _, World.ownsRow_nil _ _ _ _, fun q e => by cases e⟩
 case round =>
  obtain ⟨k, hk, rfl, F1, hG1, hC1, hO1, hsep1⟩ := hrel
  by_cases hkn : k < n
  ·obtain ⟨ra, oa, ca', ea, hra, hca⟩ := (HA.out.ch hC1).cell (k := k) (by rw [← HN.out]; exact hkn)
   obtain ⟨rb, ob, cb', eb, hrb, hcb⟩ := (HB.out.ch hC1).cell (k := k) (by rw [← HNB.out]; omega)
   rw [← HN.out] at ea
   rw [← HNB.out] at eb
   injection ea with ea1 ea2 ea3
   injection eb with eb1 eb2 eb3
   obtain ⟨k1, k2⟩ := HOK.out k (by rw [← HN.out]; exact hk)
   obtain ⟨m1, m2⟩ := HOA.out k (by rw [← HN.out]; exact hkn)
   have HST : Hid (eachK G s A B (k + 1) = ((eachK G s A B k).1 ++ [(G (eachK G s A B k).2 (A.getD k 0) (B.getD k 0)).1], (G (eachK G s A B k).2 (A.getD k 0) (B.getD k 0)).2)) := rfl
   have hlen := eachK_len (G := G) (s := s) (A := A) (B := B) k
   have HCL : Hid _ := HG.out wr F1 _ _ _ hG1 k1 (m1.grow k1) (m2.grow k1) hC1
   obtain ⟨x1, hx1⟩ : ∃ x, x = A.getD k 0 := ⟨_, rfl⟩
   obtain ⟨x2, hx2⟩ : ∃ x, x = B.getD k 0 := ⟨_, rfl⟩
   rw [← hx1] at hca HST HCL
   rw [← hx2] at hcb HST HCL
   obtain ⟨p, hp⟩ : ∃ p, p = G (eachK G s A B k).2 x1 x2 := ⟨_, rfl⟩
   rw [← hp] at HST HCL
   obtain ⟨O, hO⟩ : ∃ O, O = (eachK G s A B k).1 := ⟨_, rfl⟩
   rw [← hO] at hO1 HST hlen
   obtain ⟨aO, cO, eO, -⟩ := hO1.any
   rw [hlen] at eO
   subst eO
   have HO : Hid (Is' wr w.heap.size (.slice aO k cO) O) := hO1
   have HC1 : Hid (Ch w wr (FG F gs) (FG F1 gs)) := hC1
   have HSEP : Hid (∀ q, (Value.slice aO k cO).ownBlock = some q → ¬ FG F1 gs q) := hsep1
   have HG1 : Hid _ := hG1
   have hws : w.heap.size ≤ wr.heap.size := hC1.size
   have HLN : Hid (O.length = k) := hlen
   have HCLd : Hid (∀ wx, wx = wr.drew → Calls Tryz.prog 94 #[.int .i64 x1, .int .i64 x2, .pointer (some ⟨q4, 0, none⟩), .pointer (some ⟨q5, 0, none⟩)] wx fun ev w' => ev = .returned (.int .i64 p.1) ∧ EQ1 wr F1 gs g mo p w') := fun wx hwx => by
    have hb : Below wr.heap.size wr wx := by rw [hwx]; exact ⟨rfl, rfl, rfl, Nat.le_refl _, fun _ _ => rfl⟩
    have := HG.out wx F1 _ x1 x2 (hG1.below hb) k1 (by rw [hx1]; exact m1.grow k1) (by rw [hx2]; exact m2.grow k1) (hC1.trans (Ch.of_below _ hb))
    rw [← hp] at this
    refine this.mono ?_
    rintro ev w2 ⟨rfl, F2, q1, q2⟩
    exact ⟨rfl, F2, q1, (Ch.of_below (FG F1 gs) hb).trans q2⟩
   rw [ea1, eb1]
   have hkI : (k : Int) < (n : Int) := by omega
   have hkB : (k : Int) < (nb : Int) := by omega
   clear ea1 ea2 ea3 eb1 eb2 eb3 hG1 hC1 hO1 hsep1 k1 k2 m1 m2 hx1 hx2 hp hO hlen HCL
   go_wp2_with fail
   refine wp_named fun a0 ha0 => ?_
   have o0 := old_at ha0 (t := 0) rfl
   have o1 := old_at ha0 (t := 1) rfl
   have o2 := old_at ha0 (t := 2) rfl
   have o7 := old_at ha0 (t := 7) rfl
   have o8 := old_at ha0 (t := 8) rfl
   refine wp_region_lin (S := ES w F wr F1 gs g mo p w.heap.size O) [11, 12] (fun _ => 0) (by kernel_rfl) (by kernel_rfl) (by rw [← ha0]; kernel_rfl) (ES.start) ?_
   refine' LinAll.cons _ ?_ ?_ ?_
   rotate_left 1
   ·intro gg L a x hLi haft hS hK
    have hL7 : L 13 = false := off_b (fun e => waits (hK.cl 13 _ rfl e) 0 (by kernel_rfl)) hLi
    have t7 := (hK.pend1 7 13 (by kernel_rfl) hL7).trans o7
    (try dsimp only at t7)
    refine go_in (wanted_all rfl) ?_
    intro K hk
    clear haft hK hLi
    go_simp
    exact hk.out gg x (fun _ _ => rfl) (hS.go rfl)
   ·intro i hi; exact Or.inl (fun _ _ _ => rfl)
   refine' LinAll.cons _ ?_ ?_ ?_
   rotate_left 1
   ·intro gg L a x hLi haft hS hK
    have t0 := (hK.old 0 (by kernel_rfl)).trans o0
    (try dsimp only at t0)
    refine go_in (wanted_all rfl) ?_
    intro K hk
    clear haft hK hLi
    go_simp
    exact hk.out gg x (fun _ _ => rfl) (hS.go rfl)
   ·intro i hi; exact Or.inl (fun _ _ _ => rfl)
   refine' LinAll.cons _ ?_ ?_ ?_
   rotate_left 1
   ·intro gg L a x hLi haft hS hK
    have t1 := (hK.old 1 (by kernel_rfl)).trans o1
    (try dsimp only at t1)
    refine go_in (wanted_all rfl) ?_
    intro K hk
    clear haft hK hLi
    go_simp
    exact hk.out gg x (fun _ _ => rfl) (hS.go rfl)
   ·intro i hi; exact Or.inl (fun _ _ _ => rfl)
   refine' LinAll.cons _ ?_ ?_ ?_
   rotate_left 1
   ·intro gg L a x hLi haft hS hK
    have t8 := (hK.old 8 (by kernel_rfl)).trans o8
    (try dsimp only at t8)
    refine go_in (wanted_all rfl) ?_
    intro K hk
    clear haft hK hLi
    go_simp
    exact hk.out gg x (fun _ _ => rfl) (hS.go rfl)
   ·intro i hi; exact Or.inl (fun _ _ _ => rfl)
   refine' LinAll.cons _ ?_ ?_ ?_
   rotate_left 1
   ·intro gg L a x hLi haft hS hK
    have t16 := hK.nw haft 2 1 16 rfl (by kernel_rfl)
    have t17 := hK.nw haft 3 0 17 rfl (by kernel_rfl)
    (try dsimp only at t16 t17)
    refine go_in (wanted_all rfl) ?_
    intro K hk
    clear haft hK hLi
    go_simp
    exact hk.out gg x (fun _ _ => rfl) (hS.go rfl)
   ·intro i hi; exact Or.inl (fun _ _ _ => rfl)
   refine' LinAll.cons _ ?_ ?_ ?_
   rotate_left 1
   ·intro gg L a x hLi haft hS hK
    have t18 := hK.nw haft 4 0 18 rfl (by kernel_rfl)
    (try dsimp only at t18)
    have hx0 := hS.a0 (off_b hS.r5 hLi)
    have cX : x.cell? ⟨ra, oa + k, none⟩ = some (.int .i64 x1) := by rw [hx0]; exact hca
    clear hx0
    refine go_in (wanted_all rfl) ?_
    intro K hk
    clear haft hK hLi
    go_simp
    exact hk.out gg x (fun _ _ => rfl) (hS.go rfl)
   ·intro i hi; exact Or.inl (fun _ _ _ => rfl)
   refine' LinAll.cons _ ?_ ?_ ?_
   rotate_left 1
   ·intro gg L a x hLi haft hS hK
    have t2 := (hK.old 2 (by kernel_rfl)).trans o2
    (try dsimp only at t2)
    refine go_in (wanted_all rfl) ?_
    intro K hk
    clear haft hK hLi
    go_simp
    exact hk.out gg x (fun _ _ => rfl) (hS.go rfl)
   ·intro i hi; exact Or.inl (fun _ _ _ => rfl)
   refine' LinAll.cons _ ?_ ?_ ?_
   rotate_left 1
   ·intro gg L a x hLi haft hS hK
    have t8 := (hK.old 8 (by kernel_rfl)).trans o8
    (try dsimp only at t8)
    refine go_in (wanted_all rfl) ?_
    intro K hk
    clear haft hK hLi
    go_simp
    exact hk.out gg x (fun _ _ => rfl) (hS.go rfl)
   ·intro i hi; exact Or.inl (fun _ _ _ => rfl)
   refine' LinAll.cons _ ?_ ?_ ?_
   rotate_left 1
   ·intro gg L a x hLi haft hS hK
    have t20 := hK.nw haft 6 1 20 rfl (by kernel_rfl)
    have t21 := hK.nw haft 7 0 21 rfl (by kernel_rfl)
    (try dsimp only at t20 t21)
    refine go_in (wanted_all rfl) ?_
    intro K hk
    clear haft hK hLi
    go_simp
    exact hk.out gg x (fun _ _ => rfl) (hS.go rfl)
   ·intro i hi; exact Or.inl (fun _ _ _ => rfl)
   refine' LinAll.cons _ ?_ ?_ ?_
   rotate_left 1
   ·intro gg L a x hLi haft hS hK
    have t22 := hK.nw haft 8 0 22 rfl (by kernel_rfl)
    (try dsimp only at t22)
    have hx0 := hS.a0 (off_b hS.r9 hLi)
    have cX : x.cell? ⟨rb, ob + k, none⟩ = some (.int .i64 x2) := by rw [hx0]; exact hcb
    clear hx0
    refine go_in (wanted_all rfl) ?_
    intro K hk
    clear haft hK hLi
    go_simp
    exact hk.out gg x (fun _ _ => rfl) (hS.go rfl)
   ·intro i hi; exact Or.inl (fun _ _ _ => rfl)
   refine' LinAll.cons _ ?_ ?_ ?_
   rotate_left 1
   ·intro gg L a x hLi haft hS hK
    have t15 := hK.nw haft 1 8 15 rfl (by kernel_rfl)
    have t19 := hK.nw haft 5 4 19 rfl (by kernel_rfl)
    have t23 := hK.nw haft 9 0 23 rfl (by kernel_rfl)
    (try dsimp only at t15 t19 t23)
    refine go_in (wanted_all rfl) ?_
    intro K hk
    have h5 := waits haft 5 (by kernel_rfl)
    have h9 := waits haft 9 (by kernel_rfl)
    have hx0 := hS.a0 hLi
    have HVX : Hid _ := HCLd.out x hx0
    clear haft hK hx0
    go_simp
    refine Calls.mono HVX.out ?_
    rintro ev y ⟨rfl, hy⟩
    exact hk.out gg y (fun _ _ => rfl) (hS.call hLi h5 h9 hy)
   ·intro i hi; exact Or.inl (fun _ _ _ => rfl)
   refine LinAll.cons (fun gg => .slice (some ⟨gg 11, 0, none⟩) 1 1) ?_ ?_ ?_
   ·intro gg L a x hLi haft hS hK
    have t24 := hK.nw haft 10 0 24 rfl (by kernel_rfl)
    (try dsimp only at t24)
    refine go_in (wanted_all rfl) ?_
    intro K hk
    have h10 := waits haft 10 (by kernel_rfl)
    clear haft hK
    go_simp
    have hq := hk.out (updG gg 11 x.heap.size) _ (updG_al (by rfl)) (hS.built hLi h10)
    dsimp only at hq
    rw [updG_eq] at hq
    exact hq
   ·intro i hi
    simp only [List.mem_cons, List.not_mem_nil, or_false] at hi
    rcases hi with rfl | rfl
    ·exact Or.inr (by kernel_rfl)
    ·exact Or.inl (fun g g' h => by simp only [h 11 (by decide)])
   refine LinAll.cons (fun gg => sl (O.length + 1) (gg 12)) ?_ ?_ ?_
   ·intro gg L a x hLi haft hS hK
    have t14 := hK.nw haft 0 11 14 rfl (by kernel_rfl)
    have t25 := hK.nw haft 11 0 25 rfl (by kernel_rfl)
    (try dsimp only at t14 t25)
    refine go_in (wanted_all rfl) ?_
    intro K hk
    have h11 := waits haft 11 (by kernel_rfl)
    obtain ⟨y, hy, hxy, hgy⟩ := hS.a2 h11 hLi
    have hys : wr.heap.size ≤ y.heap.size := by obtain ⟨F2, -, hc⟩ := hy; exact hc.size
    have hrow : Is' x w.heap.size (.slice aO k cO) O := row_own HO.out (fun z hz => by
      obtain ⟨F2, -, hc⟩ := hy
      have hzl := (HO.out.lt z hz).2
      rw [hxy, heap_alloc_old y _ (by omega)]
      exact hc.block z hzl (HSEP.out z hz))
    have hbl : x.heap[gg 11]? = some (.cells #[.int .i64 p.1] 3 (0, 0)) := by rw [hxy, hgy]; exact heap_alloc_new y _
    have hxs : w.heap.size ≤ x.heap.size := by rw [hxy]; simp; omega
    refine wp_append_at _ (.tmp 14) (.tmp 25) 81 rfl w.heap.size 3 ti _ 1 8 underWord HI.out.1 HI.out.2.1 HI.out.2.2.1 HI.out.2.2.2 rfl (by decide) _ O.length _ (eval_tmp t14) hrow ⟨gg 11, 0, none⟩ 1 1 [.int .i64 p.1] (eval_tmp t25) rfl (fun j u hj => by
      have e : (⟨gg 11, 0, none⟩ : Addr).add j = ⟨gg 11, j, none⟩ := by simp [Addr.add]; try (intro hq; exact hq.symm)
      rw [e]; exact cell_of hbl j (by simpa using hj)) (ones [p.1]) (by rw [HLN.out]; unfold maxLen; omega) (by rw [HLN.out]; omega) hxs ?_
    intro v' z hown hgrow hat
    obtain ⟨pp, rfl⟩ := sl_own hown (by omega)
    have hown' : Is' z w.heap.size (sl (O.length + 1) pp) (O ++ [p.1]) := by unfold Is'; rw [List.length_append, List.map_append]; exact hown
    have hq := hk.out (updG gg 12 pp) z (updG_al (by rfl)) (hS.app h11 (EQ3.of hy hxy HC1.out HO.out HSEP.out hown' hgrow hat))
    dsimp only at hq
    rw [updG_eq] at hq
    exact hq
   ·intro i hi
    simp only [List.mem_cons, List.not_mem_nil, or_false] at hi
    rcases hi with rfl | rfl
    ·exact Or.inl (fun g g' h => by simp only [h 12 (by decide)])
    ·exact Or.inr (by kernel_rfl)
   refine' LinAll.cons _ ?_ ?_ ?_
   rotate_left 1
   ·intro gg L a x hLi haft hS hK
    have t26 := hK.nw haft 12 0 26 rfl (by kernel_rfl)
    (try dsimp only at t26)
    unfold sl at t26
    refine go_in (wanted_all rfl) ?_
    intro K hk
    clear haft hK hLi
    go_simp
    exact hk.out gg x (fun _ _ => rfl) (hS.go rfl)
   ·intro i hi
    simp only [List.mem_cons, List.not_mem_nil, or_false] at hi
    rcases hi with rfl | rfl
    ·exact Or.inl (fun g g' h => by simp only [h 12 (by decide)])
    ·exact Or.inr (by kernel_rfl)
   refine LinAll.nil fun gg x hS => ?_
   subst ha0
   simp only [Act.put, List.setIfInBounds_toArray, List.set_cons_zero, List.set_cons_succ]
   clear o0 o1 o2 o7 o8
   have HE : Hid _ := hS.a3 rfl
   clear hS
   unfold sl at HE ⊢
   go_wp2_with fail
   refine ⟨⟨k + 1, by omega, by go_num, ?_⟩, by simp [intOf]; omega⟩
   obtain ⟨F2, q1, q2, q3, q4⟩ := HE.out
   unfold Hid
   rw [HST.out]
   exact ⟨F2, q1, q2, q3, q4⟩
  ·obtain rfl : k = n := by omega
   have hkI : ¬ (k : Int) < (k : Int) := by omega
   have HW : Hid (∃ F', Wd wr (FG F' gs) u7 q.1 ∧ Gn wr F' gs g mo q.2 ∧ Ch w wr (FG F gs) (FG F' gs)) := by
    refine ⟨F1, ?_, by rw [HQ.out]; exact hG1, hC1⟩
    rw [HQ.out]
    rcases hO1.2 with ⟨e, h0⟩ | ⟨r, cap, cur, e, hb, hgg, hc, hm, hs, ht⟩
    ·have hL : (eachK G s A B k).1 = [] := List.eq_nil_of_length_eq_zero h0
     rw [hL, e]
     exact Wd.nil wr _
    ·refine ⟨_, cap, e, hc, by rw [eachK_len]; exact h5, (fun e => by cases e), ?_⟩
     by_cases hL : (eachK G s A B k).1 = []
     ·exact Or.inl hL
     ·obtain ⟨r', c', e2, -, -, hLi⟩ := hO1.li hL
      rw [e] at e2
      injection e2 with e2
      injection e2 with e2
      injection e2 with e2
      subst e2
      exact Or.inr ⟨r, 0, rfl, (Array.getElem?_eq_some_iff.1 hgg).1, hsep1 r (by rw [e]; rfl), hLi⟩
   clear hG1 hC1 hO1 hsep1
   go_wp2_with fail
   go_ret
   exact ⟨_, rfl, HW.out⟩
end Go.Proofs.YtcahhahbcijkiaaGreat.Ag
