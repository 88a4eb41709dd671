import Derived.Test.YtcahhahbcijkiaaGreatMg25
namespace Go.Proofs.YtcahhahbcijkiaaGreat.Ag
set_option maxHeartbeats 12800000
set_option maxRecDepth 100000
open Go.RowKit
set_option linter.unusedSimpArgs false
set_option linter.unusedVariables false
structure LS (x0 : World) (F1 : Nat → Prop) (gs g0 mo : Nat) (p : Int × Gz) (g : Nat → Nat) (L : Nat → Bool) (x : World) : Prop where
 a0 : L 11 = false → x = x0.drew
 a1 : L 11 = true → EQ1 x0 F1 gs g0 mo p x
theorem LS.start {x0 : World} {F1 : Nat → Prop} {gs g0 mo : Nat} {p : Int × Gz} {g : Nat → Nat} : LS x0 F1 gs g0 mo p g (fun _ => false) x0.drew := ⟨fun _ => rfl, (fun e => by cases e)⟩
theorem LS.go {x0 x : World} {F1 : Nat → Prop} {gs g0 mo : Nat} {p : Int × Gz} {g : Nat → Nat} {L : Nat → Bool} {i : Nat} (h : LS x0 F1 gs g0 mo p g L x) (hi : (i != 11) = true) : LS x0 F1 gs g0 mo p g (updB L i) x := by
 have u := updB_ne (L := L) (i := i) (k := 11) (by simp at hi; omega)
 exact ⟨by rw [u]; exact h.a0, by rw [u]; exact h.a1⟩
theorem LS.call {x0 x y : World} {F1 : Nat → Prop} {gs g0 mo : Nat} {p : Int × Gz} {g : Nat → Nat} {L : Nat → Bool} (_ : LS x0 F1 gs g0 mo p g L x) (hy : EQ1 x0 F1 gs g0 mo p y) : LS x0 F1 gs g0 mo p g (updB L 11) y :=
 ⟨(fun e => by rw [updB_eq] at e; cases e), fun _ => hy⟩
def lessK (mo : Nat) (s : Gz) (A B : List Int) : Nat → Int × Gz
 | 0 => (0, s)
 | k + 1 => gMaj mo (lessK mo s A B k).2 (tu (A.getD k 0)) (B.getD k 0) (lessK mo s A B k).1
def lessF (mo : Nat) (s : Gz) (A B : List Int) : List Int × Gz := ([(lessK mo s A B A.length).1], (lessK mo s A B A.length).2)
section
variable {w : World} {F : Nat → Prop} {gs g mo : Nat} {s : Gz} {ua ub : Value} {A B : List Int}
theorem gMaj_pre {a b c : Int} : Pg s.ks (gMaj mo s a b c).2.ks := by
 unfold gMaj
 split
 ·exact Pg.refl _
 ·split
  ·exact gAnd_pre
  ·exact gAnd_pre.trans (gOr_pre.trans (gAnd_pre.trans gOr_pre))
theorem gMaj_ok {a b c : Int} (hp : 0 < s.ks.length) (ha : OkG s a) : OkG (gMaj mo s a b c).2 (gMaj mo s a b c).1 := by
 unfold gMaj
 split
 ·exact ha
 ·split
  ·exact gAnd_ok hp
  ·refine gOr_ok ?_
   have h1 := (gAnd_pre (mo := mo) (s := s) (a := a) (b := b)).length_le
   have h2 := (gOr_pre (mo := mo) (s := (gAnd mo s a b).2) (a := a) (b := b)).length_le
   have h3 := (gAnd_pre (mo := mo) (s := (gOr mo (gAnd mo s a b).2 a b).2) (a := (gOr mo (gAnd mo s a b).2 a b).1) (b := c)).length_le
   omega
theorem lessK_ok (hp : 0 < s.ks.length) (hA : Oks s A) : ∀ k, k ≤ A.length → Pg s.ks (lessK mo s A B k).2.ks ∧ OkG (lessK mo s A B k).2 (lessK mo s A B k).1
 | 0, _ => ⟨Pg.refl _, ⟨Int.le_refl _, by show (0 : Int) < 2 * (s.ks.length : Int); omega⟩⟩
 | k + 1, hk => by
  obtain ⟨h1, h2⟩ := lessK_ok hp hA k (by omega)
  exact ⟨h1.trans gMaj_pre, gMaj_ok (by have := h1.length_le; omega) ((hA _ (getD_mem (by omega))).grow h1).trn⟩
theorem less_wok (hp : 0 < s.ks.length) (hA : Oks s A) : WOk s (lessF mo s A B) 1 := by
 obtain ⟨h1, h2⟩ := lessK_ok (mo := mo) (B := B) hp hA A.length (Nat.le_refl _)
 exact ⟨h1, rfl, fun x hx => by rw [List.mem_singleton.1 hx]; exact h2⟩
theorem less_any (h : Gn w F gs g mo s) (hA : Wd w (FG F gs) ua A) (hB : Wd w (FG F gs) ub B) (hl : A.length ≤ B.length) (oA : Oks s A) (oB : Oks s B) :
  Calls Tryz.prog 119 #[.pointer (some ⟨gs, 0, none⟩), ua, ub] w (WG w F gs g mo (lessF mo s A B)) := by
 have H : Hid _ := h
 have HA : Hid _ := hA
 have HB : Hid _ := hB
 have HOK : Hid (∀ k, k ≤ A.length → Pg s.ks (lessK mo s A B k).2.ks ∧ OkG (lessK mo s A B k).2 (lessK mo s A B k).1) := fun k hk => lessK_ok h.pos oA k hk
 have HOA : Hid (∀ k, k < A.length → OkG s (A.getD k 0) ∧ OkG s (B.getD k 0)) := fun k hk => ⟨oA _ (getD_mem hk), oB _ (getD_mem (by omega))⟩
 obtain ⟨aa, ca, rfl, -, h5⟩ := hA.sl
 obtain ⟨ab, cb, rfl, -, h5b⟩ := hB.sl
 obtain ⟨q, hq⟩ : ∃ q, q = lessF mo s A B := ⟨_, rfl⟩
 rw [← hq]
 have HQ : Hid (q = ([(lessK mo s A B A.length).1], (lessK mo s A B A.length).2)) := hq
 obtain ⟨n, hn⟩ : ∃ n, n = A.length := ⟨_, rfl⟩
 obtain ⟨nb, hnb⟩ : ∃ n, n = B.length := ⟨_, rfl⟩
 have HN : Hid _ := hn
 have HNB : Hid _ := hnb
 rw [← hn] at h5 HQ hl ⊢
 rw [← hnb] at hl ⊢
 clear h hA hB oA oB hq hn hnb h5b
 go_enter Tryz.func119, Tryz.ntmps119
 go_wp2_with fail
 go_loopw [7, 11] (fun v i wr => ∃ k : Nat, k ≤ n ∧ i = .int .i64 (k : Int) ∧ v = .int .i64 (lessK mo s A B k).1 ∧ Hid (∃ F1, Gn wr F1 gs g mo (lessK mo s A B k).2 ∧ Ch w wr (FG F gs) (FG F1 gs))) (fun v i wr => n - (intOf i).toNat)
 case atStart => exact ⟨0, Nat.zero_le _, rfl, rfl, F, H.out, Ch.refl _ _⟩
 case round =>
  obtain ⟨k, hk, rfl, rfl, F1, hG1, hC1⟩ := hrel
  by_cases hkn : k < n
  ·obtain ⟨ra, oa, ca', ea, hra, hca⟩ := (HA.out.ch hC1).cell (k := k) (by rw [← HN.out]; exact hkn)
   obtain ⟨rb, ob, cb', eb, hrb, hcb⟩ := (HB.out.ch hC1).cell (k := k) (by rw [← HNB.out]; omega)
   rw [← HN.out] at ea
   rw [← HNB.out] at eb
   injection ea with ea1 ea2 ea3
   injection eb with eb1 eb2 eb3
   obtain ⟨k1, k2⟩ := HOK.out k (by rw [← HN.out]; exact hk)
   obtain ⟨m1, m2⟩ := HOA.out k (by rw [← HN.out]; exact hkn)
   have HST : Hid (lessK mo s A B (k + 1) = gMaj mo (lessK mo s A B k).2 (tu (A.getD k 0)) (B.getD k 0) (lessK mo s A B k).1) := rfl
   obtain ⟨x1, hx1⟩ : ∃ x, x = A.getD k 0 := ⟨_, rfl⟩
   obtain ⟨x2, hx2⟩ : ∃ x, x = B.getD k 0 := ⟨_, rfl⟩
   have ok1 := m1.grow k1
   have ok2 := m2.grow k1
   rw [← hx1] at hca HST ok1
   rw [← hx2] at hcb HST ok2
   obtain ⟨St, hSt⟩ : ∃ y, y = lessK mo s A B k := ⟨_, rfl⟩
   rw [← hSt] at hG1 HST k1 k2 ok1 ok2 ⊢
   obtain ⟨cy, s1⟩ := St
   dsimp only at hG1 HST k2 ok1 ok2 ⊢
   have HTU : Hid (∀ wx, Calls Tryz.prog 130 #[.int .i64 x1] wx fun e w' => e = .returned (.int .i64 (tu x1)) ∧ w' = wx) := fun wx => bturn_any (by have := hG1.sm ok1; unfold Sm at this; omega) (by have := hG1.sm ok1; unfold Sm at this; omega) wx
   obtain ⟨p, hp⟩ : ∃ p, p = gMaj mo s1 (tu x1) x2 cy := ⟨_, rfl⟩
   have HCLd : Hid (∀ wx, wx = wr.drew → Calls Tryz.prog 149 #[.pointer (some ⟨gs, 0, none⟩), .int .i64 (tu x1), .int .i64 x2, .int .i64 cy] wx fun ev w' => ev = .returned (.int .i64 p.1) ∧ EQ1 wr F1 gs g mo p w') := fun wx hwx => by
    have hb : Below wr.heap.size wr wx := by rw [hwx]; exact ⟨rfl, rfl, rfl, Nat.le_refl _, fun _ _ => rfl⟩
    have := gmaj_any (hG1.below hb) ok1.trn ok2 k2
    rw [← hp] at this
    refine this.mono ?_
    rintro ev w2 ⟨rfl, F2, q1, q2⟩
    exact ⟨rfl, F2, q1, (Ch.of_below (FG F1 gs) hb).trans q2⟩
   rw [← hp] at HST
   obtain ⟨tx, htx⟩ : ∃ t, t = tu x1 := ⟨_, rfl⟩
   rw [← htx] at HTU HCLd
   have HC1 : Hid (Ch w wr (FG F gs) (FG F1 gs)) := hC1
   rw [ea1, eb1]
   have hkI : (k : Int) < (n : Int) := by omega
   have hkB : (k : Int) < (nb : Int) := by omega
   clear ea1 ea2 ea3 eb1 eb2 eb3 hG1 hC1 k1 k2 m1 m2 hx1 hx2 hSt hp htx ok1 ok2
   go_wp2_with fail
   refine wp_named fun a0 ha0 => ?_
   have o0 := old_at ha0 (t := 0) rfl
   have o1 := old_at ha0 (t := 1) rfl
   have o2 := old_at ha0 (t := 2) rfl
   have o7 := old_at ha0 (t := 7) rfl
   have o8 := old_at ha0 (t := 8) rfl
   refine wp_region_lin (S := LS wr F1 gs g mo p) [] (fun _ => 0) (by kernel_rfl) (by kernel_rfl) (by rw [← ha0]; kernel_rfl) (LS.start) ?_
   refine' LinAll.cons _ ?_ ?_ ?_
   rotate_left 1
   ·intro gg L a x hLi haft hS hK
    have t0 := (hK.old 0 (by kernel_rfl)).trans o0
    (try dsimp only at t0)
    refine go_in (wanted_all rfl) ?_
    intro K hk
    clear haft hK hLi
    go_simp
    exact hk.out gg x (fun _ _ => rfl) (hS.go rfl)
   ·intro i hi; exact Or.inl (fun _ _ _ => rfl)
   refine' LinAll.cons _ ?_ ?_ ?_
   rotate_left 1
   ·intro gg L a x hLi haft hS hK
    have t1 := (hK.old 1 (by kernel_rfl)).trans o1
    (try dsimp only at t1)
    refine go_in (wanted_all rfl) ?_
    intro K hk
    clear haft hK hLi
    go_simp
    exact hk.out gg x (fun _ _ => rfl) (hS.go rfl)
   ·intro i hi; exact Or.inl (fun _ _ _ => rfl)
   refine' LinAll.cons _ ?_ ?_ ?_
   rotate_left 1
   ·intro gg L a x hLi haft hS hK
    have t8 := (hK.old 8 (by kernel_rfl)).trans o8
    (try dsimp only at t8)
    refine go_in (wanted_all rfl) ?_
    intro K hk
    clear haft hK hLi
    go_simp
    exact hk.out gg x (fun _ _ => rfl) (hS.go rfl)
   ·intro i hi; exact Or.inl (fun _ _ _ => rfl)
   refine' LinAll.cons _ ?_ ?_ ?_
   rotate_left 1
   ·intro gg L a x hLi haft hS hK
    have t15 := hK.nw haft 1 1 15 rfl (by kernel_rfl)
    have t16 := hK.nw haft 2 0 16 rfl (by kernel_rfl)
    (try dsimp only at t15 t16)
    refine go_in (wanted_all rfl) ?_
    intro K hk
    clear haft hK hLi
    go_simp
    exact hk.out gg x (fun _ _ => rfl) (hS.go rfl)
   ·intro i hi; exact Or.inl (fun _ _ _ => rfl)
   refine' LinAll.cons _ ?_ ?_ ?_
   rotate_left 1
   ·intro gg L a x hLi haft hS hK
    have t17 := hK.nw haft 3 0 17 rfl (by kernel_rfl)
    (try dsimp only at t17)
    have hx0 := hS.a0 (off_b (fun e => waits (hK.cl 5 _ rfl (waits (hK.cl 11 _ rfl e) 5 (by kernel_rfl))) 4 (by kernel_rfl)) hLi)
    have cX : x.cell? ⟨ra, oa + k, none⟩ = some (.int .i64 x1) := by rw [hx0]; exact hca
    clear hx0
    refine go_in (wanted_all rfl) ?_
    intro K hk
    clear haft hK hLi
    go_simp
    exact hk.out gg x (fun _ _ => rfl) (hS.go rfl)
   ·intro i hi; exact Or.inl (fun _ _ _ => rfl)
   refine' LinAll.cons _ ?_ ?_ ?_
   rotate_left 1
   ·intro gg L a x hLi haft hS hK
    have t18 := hK.nw haft 4 0 18 rfl (by kernel_rfl)
    (try dsimp only at t18)
    refine go_in (wanted_all rfl) ?_
    intro K hk
    have HVX : Hid _ := HTU.out x
    clear haft hK hLi
    go_simp
    refine Calls.mono HVX.out ?_
    rintro ev y ⟨rfl, rfl⟩
    exact hk.out gg y (fun _ _ => rfl) (hS.go rfl)
   ·intro i hi; exact Or.inl (fun _ _ _ => rfl)
   refine' LinAll.cons _ ?_ ?_ ?_
   rotate_left 1
   ·intro gg L a x hLi haft hS hK
    have t2 := (hK.old 2 (by kernel_rfl)).trans o2
    (try dsimp only at t2)
    refine go_in (wanted_all rfl) ?_
    intro K hk
    clear haft hK hLi
    go_simp
    exact hk.out gg x (fun _ _ => rfl) (hS.go rfl)
   ·intro i hi; exact Or.inl (fun _ _ _ => rfl)
   refine' LinAll.cons _ ?_ ?_ ?_
   rotate_left 1
   ·intro gg L a x hLi haft hS hK
    have t8 := (hK.old 8 (by kernel_rfl)).trans o8
    (try dsimp only at t8)
    refine go_in (wanted_all rfl) ?_
    intro K hk
    clear haft hK hLi
    go_simp
    exact hk.out gg x (fun _ _ => rfl) (hS.go rfl)
   ·intro i hi; exact Or.inl (fun _ _ _ => rfl)
   refine' LinAll.cons _ ?_ ?_ ?_
   rotate_left 1
   ·intro gg L a x hLi haft hS hK
    have t20 := hK.nw haft 6 1 20 rfl (by kernel_rfl)
    have t21 := hK.nw haft 7 0 21 rfl (by kernel_rfl)
    (try dsimp only at t20 t21)
    refine go_in (wanted_all rfl) ?_
    intro K hk
    clear haft hK hLi
    go_simp
    exact hk.out gg x (fun _ _ => rfl) (hS.go rfl)
   ·intro i hi; exact Or.inl (fun _ _ _ => rfl)
   refine' LinAll.cons _ ?_ ?_ ?_
   rotate_left 1
   ·intro gg L a x hLi haft hS hK
    have t22 := hK.nw haft 8 0 22 rfl (by kernel_rfl)
    (try dsimp only at t22)
    have hx0 := hS.a0 (off_b (fun e => waits (hK.cl 11 _ rfl e) 9 (by kernel_rfl)) hLi)
    have cX : x.cell? ⟨rb, ob + k, none⟩ = some (.int .i64 x2) := by rw [hx0]; exact hcb
    clear hx0
    refine go_in (wanted_all rfl) ?_
    intro K hk
    clear haft hK hLi
    go_simp
    exact hk.out gg x (fun _ _ => rfl) (hS.go rfl)
   ·intro i hi; exact Or.inl (fun _ _ _ => rfl)
   refine' LinAll.cons _ ?_ ?_ ?_
   rotate_left 1
   ·intro gg L a x hLi haft hS hK
    have hL7 : L 12 = false := off_b (fun e => waits (hK.cl 12 _ rfl e) 10 (by kernel_rfl)) hLi
    have t7 := (hK.pend1 7 12 (by kernel_rfl) hL7).trans o7
    (try dsimp only at t7)
    refine go_in (wanted_all rfl) ?_
    intro K hk
    clear haft hK hLi
    go_simp
    exact hk.out gg x (fun _ _ => rfl) (hS.go rfl)
   ·intro i hi; exact Or.inl (fun _ _ _ => rfl)
   refine' LinAll.cons _ ?_ ?_ ?_
   rotate_left 1
   ·intro gg L a x hLi haft hS hK
    have t14 := hK.nw haft 0 10 14 rfl (by kernel_rfl)
    have t19 := hK.nw haft 5 5 19 rfl (by kernel_rfl)
    have t23 := hK.nw haft 9 1 23 rfl (by kernel_rfl)
    have t24 := hK.nw haft 10 0 24 rfl (by kernel_rfl)
    (try dsimp only at t14 t19 t23 t24)
    refine go_in (wanted_all rfl) ?_
    intro K hk
    have hx0 := hS.a0 hLi
    have HVX : Hid _ := HCLd.out x hx0
    clear haft hK hx0
    go_simp
    refine Calls.mono HVX.out ?_
    rintro ev y ⟨rfl, hy⟩
    exact hk.out gg y (fun _ _ => rfl) (hS.call hy)
   ·intro i hi; exact Or.inl (fun _ _ _ => rfl)
   refine' LinAll.cons _ ?_ ?_ ?_
   rotate_left 1
   ·intro gg L a x hLi haft hS hK
    have t25 := hK.nw haft 11 0 25 rfl (by kernel_rfl)
    (try dsimp only at t25)
    refine go_in (wanted_all rfl) ?_
    intro K hk
    clear haft hK hLi
    go_simp
    exact hk.out gg x (fun _ _ => rfl) (hS.go rfl)
   ·intro i hi; exact Or.inl (fun _ _ _ => rfl)
   refine LinAll.nil fun gg x hS => ?_
   subst ha0
   simp only [Act.put, List.setIfInBounds_toArray, List.set_cons_zero, List.set_cons_succ]
   clear o0 o1 o2 o7 o8
   have HE : Hid _ := hS.a1 rfl
   clear hS
   go_wp2_with fail
   refine ⟨⟨k + 1, by omega, by go_num, by rw [HST.out], ?_⟩, by simp [intOf]; omega⟩
   obtain ⟨F2, q1, q2⟩ := HE.out
   unfold Hid
   rw [HST.out]
   exact ⟨F2, q1, HC1.out.trans q2⟩
  ·obtain rfl : k = n := by omega
   have hkI : ¬ (k : Int) < (k : Int) := by omega
   obtain ⟨St, hSt⟩ : ∃ y, y = lessK mo s A B k := ⟨_, rfl⟩
   rw [← hSt] at hG1 HQ ⊢
   obtain ⟨cy, s1⟩ := St
   dsimp only at hG1 HQ ⊢
   have HW : Hid (∃ F', Wd (wr.alloc (.cells #[.int .i64 cy] 3)) (FG F' gs) (.slice (some ⟨wr.heap.size, 0, none⟩) 1 1) q.1 ∧ Gn (wr.alloc (.cells #[.int .i64 cy] 3)) F' gs g mo q.2 ∧ Ch w (wr.alloc (.cells #[.int .i64 cy] 3)) (FG F gs) (FG F' gs)) := by
    have hb : Below wr.heap.size wr (wr.alloc (.cells #[.int .i64 cy] 3)) := by go_grown
    rw [HQ.out]
    refine ⟨F1, ⟨_, 1, rfl, Nat.le_refl _, by simp, (fun e => by cases e), Or.inr ⟨wr.heap.size, 0, rfl, by simp, fun e => by have := hG1.fd _ e; omega, fun j hj => ?_⟩⟩, hG1.below hb, hC1.trans (Ch.of_below _ hb)⟩
    have : j = 0 := by simpa using hj
    subst this
    exact cell_of (heap_alloc_new wr _) 0 rfl
   clear hG1 hC1 hSt
   go_wp2_with fail
   go_ret
   exact ⟨_, rfl, HW.out⟩
end
open Go.RowKit
structure NS (w : World) (F : Nat → Prop) (x0 : World) (F1 : Nat → Prop) (gs g0 mo : Nat) (p1 p2 : Int × Gz) (O : List Int) (g : Nat → Nat) (L : Nat → Bool) (x : World) : Prop where
 a0 : L 9 = false → x = x0.drew
 a1 : L 9 = true → L 10 = false → EQ1 x0 F1 gs g0 mo p1 x
 a2 : L 10 = true → L 11 = false → EQ1 x0 F1 gs g0 mo p2 x
 a3 : L 11 = true → L 12 = false → ∃ y, EQ1 x0 F1 gs g0 mo p2 y ∧ x = y.alloc (.cells #[.int .i64 p2.1] 3 (0, 0)) ∧ g 11 = y.heap.size
 a4 : L 12 = true → EQ3 w F gs g0 mo p2 w.heap.size O (sl (O.length + 1) (g 12)) x
 e1 : L 10 = true → L 9 = true
 e2 : L 11 = true → L 10 = true
 e3 : L 12 = true → L 11 = true
section
variable {w x0 x y : World} {F F1 : Nat → Prop} {gs g0 mo : Nat} {p1 p2 : Int × Gz} {O : List Int} {g : Nat → Nat} {L : Nat → Bool} {i : Nat}
theorem NS.start : NS w F x0 F1 gs g0 mo p1 p2 O g (fun _ => false) x0.drew := ⟨fun _ => rfl, (fun e => by cases e), (fun e => by cases e), (fun e => by cases e), (fun e => by cases e), (fun e => by cases e), (fun e => by cases e), (fun e => by cases e)⟩
theorem NS.go (h : NS w F x0 F1 gs g0 mo p1 p2 O g L x) (hi : (i != 9 && i != 10 && i != 11 && i != 12) = true) : NS w F x0 F1 gs g0 mo p1 p2 O g (updB L i) x := by
 simp only [Bool.and_eq_true, bne_iff_ne, ne_eq] at hi
 have u9 := updB_ne (L := L) (i := i) (k := 9) (by omega)
 have u10 := updB_ne (L := L) (i := i) (k := 10) (by omega)
 have u11 := updB_ne (L := L) (i := i) (k := 11) (by omega)
 have u12 := updB_ne (L := L) (i := i) (k := 12) (by omega)
 exact ⟨by rw [u9]; exact h.a0, by rw [u9, u10]; exact h.a1, by rw [u10, u11]; exact h.a2, by rw [u11, u12]; exact h.a3, by rw [u12]; exact h.a4, by rw [u9, u10]; exact h.e1, by rw [u10, u11]; exact h.e2, by rw [u11, u12]; exact h.e3⟩
theorem NS.c1 (h : NS w F x0 F1 gs g0 mo p1 p2 O g L x) (hLi : L 9 = false) (hy : EQ1 x0 F1 gs g0 mo p1 y) : NS w F x0 F1 gs g0 mo p1 p2 O g (updB L 9) y := by
 have h10 := off_b h.e1 hLi
 have h11 := off_b h.e2 h10
 have h12 := off_b h.e3 h11
 exact ⟨(fun e => by rw [updB_eq] at e; cases e), fun _ _ => hy, (fun e => by rw [show updB L 9 10 = L 10 from rfl, h10] at e; cases e), (fun e => by rw [show updB L 9 11 = L 11 from rfl, h11] at e; cases e), (fun e => by rw [show updB L 9 12 = L 12 from rfl, h12] at e; cases e), fun _ => updB_eq, h.e2, h.e3⟩
theorem NS.c2 (h : NS w F x0 F1 gs g0 mo p1 p2 O g L x) (hLi : L 10 = false) (h9 : L 9 = true) (hy : EQ1 x0 F1 gs g0 mo p2 y) : NS w F x0 F1 gs g0 mo p1 p2 O g (updB L 10) y := by
 have h11 := off_b h.e2 hLi
 have h12 := off_b h.e3 h11
 exact ⟨(fun e => by rw [show updB L 10 9 = L 9 from rfl, h9] at e; cases e), (fun _ e => by rw [updB_eq] at e; cases e), fun _ _ => hy, (fun e => by rw [show updB L 10 11 = L 11 from rfl, h11] at e; cases e), (fun e => by rw [show updB L 10 12 = L 12 from rfl, h12] at e; cases e), fun _ => h9, fun _ => updB_eq, h.e3⟩
theorem NS.built (h : NS w F x0 F1 gs g0 mo p1 p2 O g L x) (hLi : L 11 = false) (h10 : L 10 = true) : NS w F x0 F1 gs g0 mo p1 p2 O (updG g 11 x.heap.size) (updB L 11) (x.alloc (.cells #[.int .i64 p2.1] 3 (0, 0))) := by
 have h12 := off_b h.e3 hLi
 have h9 := h.e1 h10
 exact ⟨(fun e => by rw [show updB L 11 9 = L 9 from rfl, h9] at e; cases e), (fun _ e => by rw [show updB L 11 10 = L 10 from rfl, h10] at e; cases e), (fun _ e => by rw [updB_eq] at e; cases e), fun _ _ => ⟨x, h.a2 h10 hLi, rfl, updG_eq _⟩, (fun e => by rw [show updB L 11 12 = L 12 from rfl, h12] at e; cases e), h.e1, fun _ => h10, fun _ => updB_eq⟩
theorem NS.app {q : Nat} (h : NS w F x0 F1 gs g0 mo p1 p2 O g L x) (h11 : L 11 = true) (hy : EQ3 w F gs g0 mo p2 w.heap.size O (sl (O.length + 1) q) y) : NS w F x0 F1 gs g0 mo p1 p2 O (updG g 12 q) (updB L 12) y := by
 have h10 := h.e2 h11
 have h9 := h.e1 h10
 exact ⟨(fun e => by rw [show updB L 12 9 = L 9 from rfl, h9] at e; cases e), (fun _ e => by rw [show updB L 12 10 = L 10 from rfl, h10] at e; cases e), (fun _ e => by rw [show updB L 12 11 = L 11 from rfl, h11] at e; cases e), (fun _ e => by rw [updB_eq] at e; cases e), fun _ => by rw [updG_eq]; exact hy, h.e1, h.e2, fun _ => h11⟩
end
def negK (mo : Nat) (s : Gz) (c : Int) (A : List Int) : Nat → List Int × Int × Gz
 | 0 => ([], 0, s)
 | k + 1 =>
  let one := if k = 0 then ((negK mo s c A k).2.1, (negK mo s c A k).2.2) else gOr mo (negK mo s c A k).2.2 (negK mo s c A k).2.1 (A.getD (k - 1) 0)
  let p1 := gAnd mo one.2 c one.1
  let p2 := gXor mo p1.2 (A.getD k 0) p1.1
  ((negK mo s c A k).1 ++ [p2.1], one.1, p2.2)
def negF (mo : Nat) (s : Gz) (c : Int) (A : List Int) : List Int × Gz := ((negK mo s c A A.length).1, (negK mo s c A A.length).2.2)
theorem negK_len {mo : Nat} {s : Gz} {c : Int} {A : List Int} : ∀ k, (negK mo s c A k).1.length = k
 | 0 => rfl
 | k + 1 => by
  show ((negK mo s c A k).1 ++ [_]).length = k + 1
  rw [List.length_append, negK_len k]
  rfl
theorem one_ok {mo k : Nat} {s : Gz} {o x : Int} (hp : 0 < s.ks.length) (ho : OkG s o) : Pg s.ks (if k = 0 then (o, s) else gOr mo s o x).2.ks ∧ OkG (if k = 0 then (o, s) else gOr mo s o x).2 (if k = 0 then (o, s) else gOr mo s o x).1 := by
 split
 ·exact ⟨Pg.refl _, ho⟩
 ·exact ⟨gOr_pre, gOr_ok hp⟩
theorem negK_ok {mo : Nat} {s : Gz} {c : Int} {A : List Int} (hp : 0 < s.ks.length) : ∀ k, Pg s.ks (negK mo s c A k).2.2.ks ∧ OkG (negK mo s c A k).2.2 (negK mo s c A k).2.1 ∧ Oks (negK mo s c A k).2.2 (negK mo s c A k).1
 | 0 => ⟨Pg.refl _, ⟨Int.le_refl _, by show (0 : Int) < 2 * (s.ks.length : Int); omega⟩, fun x hx => by cases hx⟩
 | k + 1 => by
  obtain ⟨h1, h2, h3⟩ := negK_ok (mo := mo) (s := s) (c := c) (A := A) hp k
  obtain ⟨o1, o2⟩ := one_ok (mo := mo) (k := k) (x := A.getD (k - 1) 0) (by have := h1.length_le; omega) h2
  have hst : negK mo s c A (k + 1) = ((negK mo s c A k).1 ++ [(gXor mo (gAnd mo (if k = 0 then ((negK mo s c A k).2.1, (negK mo s c A k).2.2) else gOr mo (negK mo s c A k).2.2 (negK mo s c A k).2.1 (A.getD (k - 1) 0)).2 c (if k = 0 then ((negK mo s c A k).2.1, (negK mo s c A k).2.2) else gOr mo (negK mo s c A k).2.2 (negK mo s c A k).2.1 (A.getD (k - 1) 0)).1).2 (A.getD k 0) (gAnd mo (if k = 0 then ((negK mo s c A k).2.1, (negK mo s c A k).2.2) else gOr mo (negK mo s c A k).2.2 (negK mo s c A k).2.1 (A.getD (k - 1) 0)).2 c (if k = 0 then ((negK mo s c A k).2.1, (negK mo s c A k).2.2) else gOr mo (negK mo s c A k).2.2 (negK mo s c A k).2.1 (A.getD (k - 1) 0)).1).1).1], (if k = 0 then ((negK mo s c A k).2.1, (negK mo s c A k).2.2) else gOr mo (negK mo s c A k).2.2 (negK mo s c A k).2.1 (A.getD (k - 1) 0)).1, (gXor mo (gAnd mo (if k = 0 then ((negK mo s c A k).2.1, (negK mo s c A k).2.2) else gOr mo (negK mo s c A k).2.2 (negK mo s c A k).2.1 (A.getD (k - 1) 0)).2 c (if k = 0 then ((negK mo s c A k).2.1, (negK mo s c A k).2.2) else gOr mo (negK mo s c A k).2.2 (negK mo s c A k).2.1 (A.getD (k - 1) 0)).1).2 (A.getD k 0) (gAnd mo (if k = 0 then ((negK mo s c A k).2.1, (negK mo s c A k).2.2) else gOr mo (negK mo s c A k).2.2 (negK mo s c A k).2.1 (A.getD (k - 1) 0)).2 c (if k = 0 then ((negK mo s c A k).2.1, (negK mo s c A k).2.2) else gOr mo (negK mo s c A k).2.2 (negK mo s c A k).2.1 (A.getD (k - 1) 0)).1).1).2) := rfl
  rw [hst]
  generalize (if k = 0 then ((negK mo s c A k).2.1, (negK mo s c A k).2.2) else gOr mo (negK mo s c A k).2.2 (negK mo s c A k).2.1 (A.getD (k - 1) 0)) = one at o1 o2 ⊢
  have hp1 : 0 < one.2.ks.length := by have := h1.length_le; have := o1.length_le; omega
  have a1 := gAnd_pre (mo := mo) (s := one.2) (a := c) (b := one.1)
  generalize gAnd mo one.2 c one.1 = p1 at a1 ⊢
  have hp2 : 0 < p1.2.ks.length := by have := a1.length_le; omega
  have a2 := gXor_pre (mo := mo) (s := p1.2) (a := A.getD k 0) (b := p1.1)
  have b2 := gXor_ok (mo := mo) (s := p1.2) (a := A.getD k 0) (b := p1.1) hp2
  generalize gXor mo p1.2 (A.getD k 0) p1.1 = p2 at a2 b2 ⊢
  refine ⟨h1.trans (o1.trans (a1.trans a2)), o2.grow (a1.trans a2), fun x hx => ?_⟩
  rcases List.mem_append.1 hx with hx | hx
  ·exact (h3 x hx).grow (o1.trans (a1.trans a2))
  ·rw [List.mem_singleton.1 hx]; exact b2
theorem neg_wok {mo : Nat} {s : Gz} {c : Int} {A : List Int} (hp : 0 < s.ks.length) : WOk s (negF mo s c A) A.length := by
 obtain ⟨h1, h2, h3⟩ := negK_ok (mo := mo) (s := s) (c := c) (A := A) hp A.length
 exact ⟨h1, negK_len _, h3⟩
end Go.Proofs.YtcahhahbcijkiaaGreat.Ag
