/- Contracts (store's walk): note. (Made by a script: st22.py.) -/
import Derived.Test.YtkndjndhjdfhcaaST21
namespace Go.Proofs.Ytkndjndhjdfhcaa
open Go.RowKit
set_option linter.unusedSimpArgs false
set_option linter.unusedVariables false

section
variable {K : List (Nat × Value)} {w0 w x : World} {F0 F : Nat → Prop} {s mo b N rt : Nat} {vo vm : Value} {A : List Int} {C W : List (List Int)} {M : List (Nat × Nat)} {T : List Int} {k : Nat}
/-- Only blocks of the store, or new ones, have turned. -/
theorem Wk.move (h : Wk K w0 F0 w F s mo b N rt vo vm A C W M T k) {F' : Nat → Prop} {A' : List Int} {W' : List (List Int)} (hc : Ch w x F F') (hs : SK K x F' s mo A' (bds C) (shs C) W') : Wk K w0 F0 x F' s mo b N rt vo vm A' C W' M T k := by
  have hno : ∀ q, ¬ F q → q < w.heap.size → ¬ F' q := fun q hn hq hf => by
    rcases hc.foot q hf with h1 | ⟨h1, -⟩
    · exact hn h1
    · omega
  have hvo : ∀ q, vo.ownBlock = some q → q < w.heap.size := fun q e => (World.ownsRow.lt h.to q e).2
  have hvm : ∀ q, vm.ownBlock = some q → q < w.heap.size := fun q e => (h.mr.lt q e).2
  exact ⟨(hc.block b h.bl h.nb).trans h.hd, h.tr.of_block (hc.block rt h.tr.lt h.nt), row_own h.to (fun q e => hc.block q (hvo q e) (h.no q e)), row_own h.mr (fun q e => hc.block q (hvm q e) (h.nm q e)), h.b0, h.t0, hs, hno b h.nb h.bl, hno rt h.nt h.tr.lt, fun q e => hno q (h.no q e) (hvo q e), fun q e => hno q (h.nm q e) (hvm q e), h.ch.trans hc, hc.lts h.lt⟩
theorem two_new (w : World) (a c : Value) (t : TypeId) : ∀ (j : Nat) (u : Value), [a, c][j]? = some u → (w.alloc (.cells #[a, c] t)).cell? ((⟨w.heap.size, 0, none⟩ : Addr).add j) = some u := by
  intro j u hj
  have e : (⟨w.heap.size, 0, none⟩ : Addr).add j = ⟨w.heap.size, j, none⟩ := by by_cases hj0 : j = 0 <;> simp [Addr.add, hj0]
  rw [e]
  exact cell_of (heap_alloc_new w _) j (by simpa using hj)
/-- One more move is noted. -/
theorem Wk.noted {w2 : World} {v' : Value} {o : Obj} {M' : List (Nat × Nat)} (h : Wk K w0 F0 w F s mo b N rt vo vm A C W M T k) (hg : (w.alloc o).grownBy w2 vm.ownBlock) (ho : w2.ownsRow w0.heap.size 79 2 v' M'.length (M'.flatMap mcs)) (hat : v'.ownBlock = vm.ownBlock ∨ ∃ q, v'.ownBlock = some q ∧ w.heap.size ≤ q) :
    Wk K w0 F0 (w2.setCell ⟨b, 4, none⟩ v') F s mo b N rt vo v' A C W M' T k := by
  obtain ⟨s1, s2, s3, s4, s5, s6⟩ := h.sep
  have hbl := h.bl
  have hg' := grown_of hg
  have hz := hg'.size
  have hzs : (w2.setCell ⟨b, 4, none⟩ v').heap.size = w2.heap.size := by rw [World.size_setCell]
  have hvb : v'.ownBlock ≠ some b := by
    rcases hat with e | ⟨q, e, hq⟩
    · rw [e]; exact s4
    · rw [e]; intro q2; injection q2; omega
  have hb2 : w2.heap[b]? = some (.cells #[.pointer (some ⟨s, 0, none⟩), .slice (some ⟨rt, 0, none⟩) N N, vo, .int .i64 (k : Int), vm] 64) := (hg'.block b hbl (fun e => s4 e.symm)).trans h.hd
  have hk : ∀ q, q < w.heap.size → vm.ownBlock ≠ some q → q ≠ b → (w2.setCell ⟨b, 4, none⟩ v').heap[q]? = w.heap[q]? := fun q hq h2 h3 => (heap_setCell_other _ _ _ _ h3).trans (hg'.block q hq (fun e => h2 e.symm))
  obtain ⟨q1, q2, q3⟩ := h.stx (w' := w2.setCell ⟨b, 4, none⟩ v') (by omega) hg'.os hg'.tape hg'.output (fun q hq hf => by
    refine hk q hq ?_ ?_
    · intro e
      rcases hf with hf | hf
      · exact h.nm q e hf
      · have := (h.mr.lt q e).1; omega
    · rintro rfl
      rcases hf with hf | hf
      · exact h.nb hf
      · have := h.b0; omega)
  refine ⟨by rw [heap_setCell_same _ _ _ _ _ _ hb2]; rfl, h.tr.of_block (hk rt h.tr.lt s5 (fun e => s1 e.symm)), row_own h.to (fun q e => hk q (World.ownsRow.lt h.to q e).2 (s6 q e) (fun e2 => s2 (e2 ▸ e))), row_far ho hvb, h.b0, h.t0, q1, h.nb, h.nt, h.no, fun q e hf => ?_, q2, q3⟩
  rcases hat with e2 | ⟨q', e2, hq'⟩
  · exact h.nm q (by rw [← e2]; exact e) hf
  · rw [e2] at e; cases e
    have := h.lt _ hf
    omega
end
set_option maxRecDepth 20000 in
set_option maxHeartbeats 25600000 in
theorem note_any {K : List (Nat × Value)} {w0 w : World} {F0 F : Nat → Prop} {s mo b N rt : Nat} {vo vm : Value} {A : List Int} {C W : List (List Int)} {M : List (Nat × Nat)} {T : List Int} {k : Nat} {ref : Nat} {l : Int} (h : Wk K w0 F0 w F s mo b N rt vo vm A C W M T k) (hl : sm l) (hm : cd l < W.length) (hW : W.length ≤ 1000000) (hLn : ∀ L ∈ W, L.length ≤ 1000000) (hM : M.length ≤ 1000000) (hK : ∀ x ∈ K, x.1 ≠ cd l) :
    Calls Try.prog 74 #[.pointer (some ⟨b, 0, none⟩), .int .i64 (ref : Int), .int .i64 l] w fun e w' => e = .returned (.tuple #[]) ∧ ∃ F' vm', Wk K w0 F0 w' F' s mo b N rt vo vm' A C (addW W (cd l) (ref : Int)) (M ++ [(ref, cd l)]) T k := by
  obtain ⟨ti, ht0, hz0, hz1, hz2⟩ := info_any infoInt
  have HI0 : Hid _ := (⟨ht0, hz0, hz1, hz2⟩ : Try.prog.info? 3 = some ti ∧ ti.zero = some (.int .i64 0) ∧ ti.size = 1 ∧ ti.bytes = 8)
  clear ht0 hz0 hz1 hz2
  obtain ⟨tm, ht0, hz0, hz1, hz2⟩ := info_any infoMove
  have HI1 : Hid _ := (⟨ht0, hz0, hz1, hz2⟩ : Try.prog.info? 79 = some tm ∧ tm.zero = some (.agg #[.int .i64 0, .int .u64 0]) ∧ tm.size = 2 ∧ tm.bytes = 16)
  clear ht0 hz0 hz1 hz2
  have HCO : Hid _ := code_any hl w
  obtain ⟨va, vb, vs, vw, us, hSt, hKp⟩ := h.st
  obtain ⟨R, nw, cw, cr, u, hvw, hnw, hcr, huC, hcC, hIu, hRz⟩ := hSt.watches hm
  have hwl : us.length = W.length := hSt.len
  rw [← hnw] at hvw
  subst hvw
  obtain ⟨c, hc⟩ : ∃ c, c = cd l := ⟨_, rfl⟩
  rw [← hc] at HCO hm huC hcC hIu hK ⊢
  have HKP : Hid _ := hKp
  have HKK : Hid _ := hK
  clear hKp hK
  have hCn : (c : Int) < (nw : Int) := by rw [hnw, hwl]; omega
  have hCw : nw ≤ 1000000 := by rw [hnw, hwl]; exact hW
  obtain ⟨L0, hL0⟩ : ∃ L, L = W.getD c [] := ⟨_, rfl⟩
  rw [← hL0] at hIu
  have hL0l : L0.length ≤ 1000000 := hLn L0 (by rw [hL0, List.getD_eq_getElem?_getD, List.getElem?_eq_getElem hm]; exact List.getElem_mem hm)
  obtain ⟨au, cu, hue⟩ := own_slice hIu
  obtain ⟨nu, hnu⟩ : ∃ n, n = L0.length := ⟨_, rfl⟩
  rw [← hnu] at hue hL0l
  subst hue
  have hu3 : (va :: vb :: vs :: us)[c + 3]? = some (Value.slice au nu cu) := by simpa using huC
  obtain ⟨wz, hwz⟩ : ∃ wz, wz = w := ⟨_, rfl⟩
  subst hwz
  have H : Hid (Wk K w0 F0 wz F s mo b N rt vo vm A C W M T k) := h
  have HSZ : Hid (St wz F s mo va vb vs (.slice (some ⟨R, 0, none⟩) nw cw) us A (bds C) (shs C) W) := hSt
  have HBD : Hid (wz.heap[b]? = some (.cells #[.pointer (some ⟨s, 0, none⟩), .slice (some ⟨rt, 0, none⟩) N N, vo, .int .i64 (k : Int), vm] 64)) := h.hd
  have HHD : Hid (wz.heap[s]? = some (.cells #[.int .i64 (mo : Int), va, vb, vs, .slice (some ⟨R, 0, none⟩) nw cw] 54)) := hSt.hd
  have HCR : Hid (wz.heap[R]? = some (.cells cr 27)) := hcr
  have HCC : Hid (cr[c]? = some (.slice au nu cu)) := hcC
  have HW : Hid (wz.ownsRow 0 3 1 (.slice au nu cu) nu (L0.map (Value.int .i64))) := by unfold Hid; rw [hnu]; rw [hnu] at hIu; exact hIu
  have HBV : Hid (∀ k, (Value.slice au nu cu).ownBlock = some k → k < wz.heap.size) := fun k hk => (World.ownsRow.lt hIu k hk).2
  have HVR : Hid ((Value.slice au nu cu).ownBlock ≠ some R) := hSt.now hu3 rfl
  have hRv : some R ≠ (Value.slice au nu cu).ownBlock := fun e => HVR.out e.symm
  have hsv : some s ≠ (Value.slice au nu cu).ownBlock := fun e => hSt.nos hu3 e.symm
  have hsR : s ≠ R := fun e => hSt.ws (by rw [e]; rfl)
  have hsz : s < wz.heap.size := hSt.lt
  have hbz : b < wz.heap.size := h.bl
  have hbv : some b ≠ (Value.slice au nu cu).ownBlock := fun e => h.nb (hSt.fam.foot (c + 3) _ b hu3 e.symm)
  have hbR : b ≠ R := fun e => h.nb (by rw [e]; exact hSt.fw R rfl)
  have HNU : Hid _ := hnu
  have HNW : Hid (nw = us.length) := hnw
  have HUC : Hid (us[c]? = some (.slice au nu cu)) := huC
  have HL00 : Hid (L0 = W.getD c []) := hL0
  have hcm : c ≤ 1000000 := by omega
  clear hSt hcr huC hcC hIu hwl hc hL0 hnu hnw hu3 h hLn
  go_enter Try.func74, Try.ntmps74
  go_wp2_with fail
  refine Calls.mono HCO.out ?_
  rintro ev w1 ⟨rfl, hw1⟩
  rw [hw1]
  clear hw1 w1
  go_wp2_with fail
  refine wp_named fun a0 ha0 => ?_
  have o0 := old_at ha0 (t := 0) rfl
  have o1 := old_at ha0 (t := 1) rfl
  have o6 := old_at ha0 (t := 6) rfl
  refine wp_region_lin (S := BSt wz 0 3 1 (.slice au nu cu) nu (L0.map (Value.int .i64)) [.int .i64 (ref : Int)] [] R c cr 27 17 19 20 99 22) [19, 20] (fun _ => 0) (by kernel_rfl) (by kernel_rfl) (by rw [← ha0]; kernel_rfl) (BSt.start (x := wz.drew) ⟨rfl, rfl, rfl, rfl⟩) ?_
  refine' LinAll.cons _ ?_ ?_ ?_
  rotate_left 1
  · intro g L a x hLi haft hS hK
    have t0 := (hK.old 0 (by kernel_rfl)).trans o0
    (try dsimp only at t0)
    refine go_in (wanted_all rfl) ?_
    intro K hk
    clear haft hK hLi
    go_simp
    exact hk.out g x (fun _ _ => rfl) (hS.go rfl)
  · intro i hi; exact Or.inl (fun _ _ _ => rfl)
  refine' LinAll.cons _ ?_ ?_ ?_
  rotate_left 1
  · intro g L a x hLi haft hS hK
    have t9 := hK.new 0 0 _ 9 _ rfl rfl rfl (by kernel_rfl) (waits haft 0 (by kernel_rfl))
    (try dsimp only at t9)
    refine go_in (wanted_all rfl) ?_
    intro K hk
    clear haft hK hLi
    go_simp
    exact hk.out g x (fun _ _ => rfl) (hS.go rfl)
  · intro i hi; exact Or.inl (fun _ _ _ => rfl)
  refine' LinAll.cons _ ?_ ?_ ?_
  rotate_left 1
  · intro g L a x hLi haft hS hK
    have t10 := hK.new 1 0 _ 10 _ rfl rfl rfl (by kernel_rfl) (waits haft 1 (by kernel_rfl))
    (try dsimp only at t10)
    refine go_in (wanted_all rfl) ?_
    intro K hk
    clear haft hK hLi
    go_simp
    exact hk.out g x (fun _ _ => rfl) (hS.go rfl)
  · intro i hi; exact Or.inl (fun _ _ _ => rfl)
  refine' LinAll.cons _ ?_ ?_ ?_
  rotate_left 1
  · intro g L a x hLi haft hS hK
    have t11 := hK.new 2 0 _ 11 _ rfl rfl rfl (by kernel_rfl) (waits haft 2 (by kernel_rfl))
    (try dsimp only at t11)
    have c1 : x.cell? ⟨b, 0, none⟩ = some (.pointer (some ⟨s, 0, none⟩)) := cell_of ((hS.kp b hbz (fun _ => hbv) (fun _ => hbR)).trans HBD.out) 0 rfl
    refine go_in (wanted_all rfl) ?_
    intro K hk
    clear haft hK hLi
    go_simp
    exact hk.out g x (fun _ _ => rfl) (hS.go rfl)
  · intro i hi; exact Or.inl (fun _ _ _ => rfl)
  refine' LinAll.cons _ ?_ ?_ ?_
  rotate_left 1
  · intro g L a x hLi haft hS hK
    have t12 := hK.new 3 0 _ 12 _ rfl rfl rfl (by kernel_rfl) (waits haft 3 (by kernel_rfl))
    (try dsimp only at t12)
    refine go_in (wanted_all rfl) ?_
    intro K hk
    clear haft hK hLi
    go_simp
    exact hk.out g x (fun _ _ => rfl) (hS.go rfl)
  · intro i hi; exact Or.inl (fun _ _ _ => rfl)
  refine' LinAll.cons _ ?_ ?_ ?_
  rotate_left 1
  · intro g L a x hLi haft hS hK
    have t13 := hK.new 4 0 _ 13 _ rfl rfl rfl (by kernel_rfl) (waits haft 4 (by kernel_rfl))
    (try dsimp only at t13)
    refine go_in (wanted_all rfl) ?_
    intro K hk
    clear haft hK hLi
    go_simp
    exact hk.out g x (fun _ _ => rfl) (hS.go rfl)
  · intro i hi; exact Or.inl (fun _ _ _ => rfl)
  refine' LinAll.cons _ ?_ ?_ ?_
  rotate_left 1
  · intro g L a x hLi haft hS hK
    have t14 := hK.new 5 0 _ 14 _ rfl rfl rfl (by kernel_rfl) (waits haft 5 (by kernel_rfl))
    (try dsimp only at t14)
    have c1 : x.cell? ⟨s, 4, none⟩ = some (.slice (some ⟨R, 0, none⟩) nw cw) := cell_of ((hS.kp s hsz (fun _ => hsv) (fun _ => hsR)).trans HHD.out) 4 rfl
    refine go_in (wanted_all rfl) ?_
    intro K hk
    clear haft hK hLi
    go_simp
    exact hk.out g x (fun _ _ => rfl) (hS.go rfl)
  · intro i hi; exact Or.inl (fun _ _ _ => rfl)
  refine' LinAll.cons _ ?_ ?_ ?_
  rotate_left 1
  · intro g L a x hLi haft hS hK
    have t6 := (hK.old 6 (by kernel_rfl)).trans o6
    (try dsimp only at t6)
    refine go_in (wanted_all rfl) ?_
    intro K hk
    clear haft hK hLi
    go_simp
    exact hk.out g x (fun _ _ => rfl) (hS.go rfl)
  · intro i hi; exact Or.inl (fun _ _ _ => rfl)
  refine' LinAll.cons _ ?_ ?_ ?_
  rotate_left 1
  · intro g L a x hLi haft hS hK
    have t0 := (hK.old 0 (by kernel_rfl)).trans o0
    (try dsimp only at t0)
    refine go_in (wanted_all rfl) ?_
    intro K hk
    clear haft hK hLi
    go_simp
    exact hk.out g x (fun _ _ => rfl) (hS.go rfl)
  · intro i hi; exact Or.inl (fun _ _ _ => rfl)
  refine' LinAll.cons _ ?_ ?_ ?_
  rotate_left 1
  · intro g L a x hLi haft hS hK
    have t17 := hK.new 8 0 _ 17 _ rfl rfl rfl (by kernel_rfl) (waits haft 8 (by kernel_rfl))
    (try dsimp only at t17)
    refine go_in (wanted_all rfl) ?_
    intro K hk
    clear haft hK hLi
    go_simp
    exact hk.out g x (fun _ _ => rfl) (hS.go rfl)
  · intro i hi; exact Or.inl (fun _ _ _ => rfl)
  refine' LinAll.cons _ ?_ ?_ ?_
  rotate_left 1
  · intro g L a x hLi haft hS hK
    have t18 := hK.new 9 0 _ 18 _ rfl rfl rfl (by kernel_rfl) (waits haft 9 (by kernel_rfl))
    (try dsimp only at t18)
    refine go_in (wanted_all rfl) ?_
    intro K hk
    clear haft hK hLi
    go_simp
    exact hk.out g x (fun _ _ => rfl) (hS.go rfl)
  · intro i hi; exact Or.inl (fun _ _ _ => rfl)
  refine' LinAll.cons _ ?_ ?_ ?_
  rotate_left 1
  · intro g L a x hLi haft hS hK
    have t19 := hK.new 10 0 _ 19 _ rfl rfl rfl (by kernel_rfl) (waits haft 10 (by kernel_rfl))
    (try dsimp only at t19)
    have c1 : x.cell? ⟨b, 0, none⟩ = some (.pointer (some ⟨s, 0, none⟩)) := cell_of ((hS.kp b hbz (fun _ => hbv) (fun _ => hbR)).trans HBD.out) 0 rfl
    refine go_in (wanted_all rfl) ?_
    intro K hk
    clear haft hK hLi
    go_simp
    exact hk.out g x (fun _ _ => rfl) (hS.go rfl)
  · intro i hi; exact Or.inl (fun _ _ _ => rfl)
  refine' LinAll.cons _ ?_ ?_ ?_
  rotate_left 1
  · intro g L a x hLi haft hS hK
    have t20 := hK.new 11 0 _ 20 _ rfl rfl rfl (by kernel_rfl) (waits haft 11 (by kernel_rfl))
    (try dsimp only at t20)
    refine go_in (wanted_all rfl) ?_
    intro K hk
    clear haft hK hLi
    go_simp
    exact hk.out g x (fun _ _ => rfl) (hS.go rfl)
  · intro i hi; exact Or.inl (fun _ _ _ => rfl)
  refine' LinAll.cons _ ?_ ?_ ?_
  rotate_left 1
  · intro g L a x hLi haft hS hK
    have t21 := hK.new 12 0 _ 21 _ rfl rfl rfl (by kernel_rfl) (waits haft 12 (by kernel_rfl))
    (try dsimp only at t21)
    refine go_in (wanted_all rfl) ?_
    intro K hk
    clear haft hK hLi
    go_simp
    exact hk.out g x (fun _ _ => rfl) (hS.go rfl)
  · intro i hi; exact Or.inl (fun _ _ _ => rfl)
  refine' LinAll.cons _ ?_ ?_ ?_
  rotate_left 1
  · intro g L a x hLi haft hS hK
    have t22 := hK.new 13 0 _ 22 _ rfl rfl rfl (by kernel_rfl) (waits haft 13 (by kernel_rfl))
    (try dsimp only at t22)
    have c1 : x.cell? ⟨s, 4, none⟩ = some (.slice (some ⟨R, 0, none⟩) nw cw) := cell_of ((hS.kp s hsz (fun _ => hsv) (fun _ => hsR)).trans HHD.out) 4 rfl
    refine go_in (wanted_all rfl) ?_
    intro K hk
    clear haft hK hLi
    go_simp
    exact hk.out g x (fun _ _ => rfl) (hS.go rfl)
  · intro i hi; exact Or.inl (fun _ _ _ => rfl)
  refine' LinAll.cons _ ?_ ?_ ?_
  rotate_left 1
  · intro g L a x hLi haft hS hK
    have t6 := (hK.old 6 (by kernel_rfl)).trans o6
    (try dsimp only at t6)
    refine go_in (wanted_all rfl) ?_
    intro K hk
    clear haft hK hLi
    go_simp
    exact hk.out g x (fun _ _ => rfl) (hS.go rfl)
  · intro i hi; exact Or.inl (fun _ _ _ => rfl)
  refine' LinAll.cons _ ?_ ?_ ?_
  rotate_left 1
  · intro g L a x hLi haft hS hK
    have t23 := hK.new 14 1 _ 23 _ rfl rfl rfl (by kernel_rfl) (waits haft 14 (by kernel_rfl))
    have t24 := hK.new 15 0 _ 24 _ rfl rfl rfl (by kernel_rfl) (waits haft 15 (by kernel_rfl))
    (try dsimp only at t23 t24)
    refine go_in (wanted_all rfl) ?_
    intro K hk
    clear haft hK hLi
    go_simp
    exact hk.out g x (fun _ _ => rfl) (hS.go rfl)
  · intro i hi; exact Or.inl (fun _ _ _ => rfl)
  refine' LinAll.cons _ ?_ ?_ ?_
  rotate_left 1
  · intro g L a x hLi haft hS hK
    have t25 := hK.new 16 0 _ 25 _ rfl rfl rfl (by kernel_rfl) (waits haft 16 (by kernel_rfl))
    (try dsimp only at t25)
    obtain ⟨na, ns⟩ := hS.noa hLi
    have c1 : x.cell? ⟨R, c, none⟩ = some (.slice au nu cu) := cell_of ((hS.kp R hRz (fun _ => hRv) (fun e => by rw [ns] at e; cases e)).trans HCR.out) c HCC.out
    clear na ns
    refine go_in (wanted_all rfl) ?_
    intro K hk
    clear haft hK hLi
    go_simp
    exact hk.out g x (fun _ _ => rfl) (hS.go rfl)
  · intro i hi; exact Or.inl (fun _ _ _ => rfl)
  refine' LinAll.cons _ ?_ ?_ ?_
  rotate_left 1
  · intro g L a x hLi haft hS hK
    have t1 := (hK.old 1 (by kernel_rfl)).trans o1
    (try dsimp only at t1)
    refine go_in (wanted_all rfl) ?_
    intro K hk
    clear haft hK hLi
    go_simp
    exact hk.out g x (fun _ _ => rfl) (hS.go rfl)
  · intro i hi; exact Or.inl (fun _ _ _ => rfl)
  refine LinAll.cons (fun g => .slice (some ⟨g 19, 0, none⟩) 1 1) ?_ ?_ ?_
  · intro g L a x hLi haft hS hK
    have t27 := hK.new 18 0 _ 27 _ rfl rfl rfl (by kernel_rfl) (waits haft 18 (by kernel_rfl))
    (try dsimp only at t27)
    refine go_in (wanted_all rfl) ?_
    intro K hk
    clear haft hK
    go_simp
    have hq := hk.out (updG g 19 x.heap.size) _ (updG_al (by rfl)) (hS.built hLi (by decide))
    dsimp only at hq
    rw [updG_eq] at hq
    exact hq
  · intro i hi; simp only [List.mem_cons, List.not_mem_nil, or_false] at hi; rcases hi with rfl | rfl; exact Or.inr (by kernel_rfl); exact Or.inl (fun g g' h => by simp only [h 19 (by decide)])
  refine LinAll.cons (fun g => sl (nu + 1) (g 20)) ?_ ?_ ?_
  · intro g L a x hLi haft hS hK
    have t26 := hK.new 17 2 _ 26 _ rfl rfl rfl (by kernel_rfl) (waits haft 17 (by kernel_rfl))
    have t28 := hK.new 19 0 _ 28 _ rfl rfl rfl (by kernel_rfl) (waits haft 19 (by kernel_rfl))
    (try dsimp only at t26 t28)
    have hLl := waits haft 17 (by kernel_rfl)
    have hLb := waits haft 19 (by kernel_rfl)
    have his : L 22 = false := by
      cases e : L 22
      · rfl
      · rw [hS.d3 e] at hLi; cases hLi
    have hrow := row_own HW.out (fun k hk => hS.kp k (HW.out.lt k hk).2 (fun e => by rw [hLi] at e; cases e) (fun e => by rw [his] at e; cases e))
    have hsb := hS.sb hLb hLi
    refine go_in (wanted_all rfl) ?_
    intro K hk
    refine wp_append_at _ (.tmp 26) (.tmp 28) 27 rfl 0 3 ti _ 1 8 underInts HI0.out.1 HI0.out.2.1 HI0.out.2.2.1 HI0.out.2.2.2 rfl (by decide) _ nu _ (eval_tmp t26) hrow ⟨g 19, 0, none⟩ 1 1 [.int .i64 (ref : Int)] (eval_tmp t28) rfl (fun j u hj => by
        have e : (⟨g 19, 0, none⟩ : Addr).add j = ⟨g 19, j, none⟩ := by simp [Addr.add]; try (intro hq; exact hq.symm)
        rw [e]; exact cell_of hsb.1 j (by simpa using hj)) (ones [(ref : Int)]) (by unfold maxLen; omega) (by omega) (by have := hS.siz; omega) ?_
    intro v' y hown hgrow hat
    obtain ⟨p, rfl⟩ := sl_own hown (by omega)
    have hq := hk.out (updG g 20 p) y (updG_al (by rfl)) (hS.app hLl hLb hLi (by decide) HBV.out hgrow hown hat)
    dsimp only at hq
    rw [updG_eq] at hq
    exact hq
  · intro i hi; simp only [List.mem_cons, List.not_mem_nil, or_false] at hi; rcases hi with rfl | rfl; exact Or.inl (fun g g' h => by simp only [h 20 (by decide)]); exact Or.inr (by kernel_rfl)
  refine' LinAll.cons _ ?_ ?_ ?_
  rotate_left 1
  · intro g L a x hLi haft hS hK
    have t15 := hK.new 6 14 _ 15 _ rfl rfl rfl (by kernel_rfl) (waits haft 6 (by kernel_rfl))
    have t16 := hK.new 7 13 _ 16 _ rfl rfl rfl (by kernel_rfl) (waits haft 7 (by kernel_rfl))
    (try dsimp only at t15 t16)
    refine go_in (wanted_all rfl) ?_
    intro K hk
    clear haft hK hLi
    go_simp
    exact hk.out g x (fun _ _ => rfl) (hS.go rfl)
  · intro i hi; exact Or.inl (fun _ _ _ => rfl)
  refine LinAll.cons (fun _ => undef) ?_ ?_ ?_
  · intro g L a x hLi haft hS hK
    have t29 := hK.new 20 1 _ 29 _ rfl rfl rfl (by kernel_rfl) (waits haft 20 (by kernel_rfl))
    have t30 := hK.new 21 0 _ 30 _ rfl rfl rfl (by kernel_rfl) (waits haft 21 (by kernel_rfl))
    (try dsimp only at t29 t30)
    have hLa := waits haft 20 (by kernel_rfl)
    have hh := (hS.kp R hRz (fun _ => hRv) (fun e => by rw [hLi] at e; cases e)).trans HCR.out
    have c1 : x.cell? ⟨R, c, none⟩ = some (.slice au nu cu) := cell_of hh c HCC.out
    have f1 : x.frozen? ⟨R, c, none⟩ = false := by simp [World.frozen?, hh]
    have hnew := hS.store hLa hLi (by decide) HVR.out hRz HCR.out
    unfold sl at t29
    refine go_in (wanted_all rfl) ?_
    intro K hk
    clear haft hK hLi hLa hh
    go_simp
    exact hk.out g _ (fun _ _ => rfl) hnew
  · intro i hi; exact Or.inl (fun _ _ _ => rfl)
  refine LinAll.nil fun g x hS => ?_
  subst ha0
  simp only [Act.put, List.setIfInBounds_toArray, List.set_cons_zero, List.set_cons_succ]
  clear o0 o1 o6
  have hS2 := hS
  rw [HNU.out] at hS2
  obtain ⟨e1, e2⟩ := HSZ.out.list (by rw [HNW.out]) HCR.out HUC.out (by rw [HNU.out]; exact hS2.ap (by decide) (by decide) (by decide))
  have e3 : W.set c (L0 ++ [(ref : Int)]) = addW W c ref := by rw [HL00.out]; rfl
  rw [e3] at e1
  have HX : Hid (Wk K w0 F0 x (more F wz x) s mo b N rt vo vm A C (addW W c ref) M T k) := H.out.move e2 ⟨_, _, _, _, _, e1, fun y hy => by rw [List.getElem?_set_ne (fun e => HKK.out y hy e.symm)]; exact HKP.out y hy⟩
  clear hS hS2 e1 e2 e3
  have hbd := HX.out.hd
  have c4 : x.cell? ⟨b, 4, none⟩ = some vm := cell_of hbd 4 rfl
  have hbx : b < x.heap.size := HX.out.bl
  have hx0 : w0.heap.size ≤ x.heap.size := HX.out.ch.size
  obtain ⟨am, nm, km, hvm, HNM⟩ := own_sl HX.out.mr
  subst hvm
  have hnm : nm ≤ 1000000 := by rw [HNM.out]; exact hM
  clear hbd
  go_wp2_with (at_builtin; refine wpList_append_own_at _ rfl _ _ 62 rfl w0.heap.size 79 tm (.agg #[.int .i64 0, .int .u64 0]) 2 16 underMoves HI1.out.1 HI1.out.2.1 HI1.out.2.2.1 HI1.out.2.2.2 rfl (by decide) (.slice am nm km) nm (M.flatMap mcs) rfl (by rw [HNM.out]; rw [HNM.out] at HX; exact row_kept HX.out.mr (fun _ hq => heap_alloc_old _ _ hq)) ⟨x.heap.size, 0, none⟩ 1 1 [.int .i64 (ref : Int), .int .u64 (c : Int)] rfl rfl (two_new x _ _ _) (by intro y hy; simp at hy; rcases hy with rfl | rfl <;> rfl) (by unfold maxLen; omega) (by omega) (by rw [size_alloc']; omega) ?_; intro v1 w2 hown hgrow hnil hat; obtain ⟨a2, m2, k2, hv1, HM2⟩ := own_sl hown; subst hv1; have hd2 : w2.heap[b]? = _ := ((grown_of hgrow).block b hbx (fun e => HX.out.sep.2.2.2.1 e.symm)).trans HX.out.hd; have c42 : w2.cell? ⟨b, 4, none⟩ = some (.slice am nm km) := cell_of hd2 4 rfl; have f42 : w2.frozen? ⟨b, 4, none⟩ = false := (by simp [World.frozen?, hd2]); have HGR : Hid _ := hgrow; have HOW : Hid _ := hown; have HAT : Hid _ := hat; clear hown hgrow hat hd2 hnil)
  go_end0
  refine ⟨rfl, _, _, HX.out.noted HGR.out ?_ (at_of HAT.out)⟩
  rw [List.length_append, List.flatMap_append, ← HNM.out]
  exact HOW.out
end Go.Proofs.Ytkndjndhjdfhcaa
