/- Contracts (the laws): what is held at a place. -/
import Derived.Test.YtohfjpahdoodgaaDoorDE27
namespace Go.Proofs.YtohfjpahdoodgaaDoor
open Go.RowKit
set_option linter.unusedSimpArgs false
set_option linter.unusedVariables false

theorem frz {w : World} {b : Nat} {cs : Array Value} {T : TypeId} (h : w.heap[b]? = some (.cells cs T (0, 0))) (j : Nat) : w.frozen? ⟨b, j, none⟩ = false := by simp [World.frozen?, h]
/-- A region that reads, and stores one thing of two cells. -/
structure AS (W : World) (rb : Nat) (f : Int) (tv : Value) (g : Nat → Nat) (D : Nat → Bool) (x : World) : Prop where
  a : D 13 = false → x = W.drew
  b : D 13 = true → x = (W.drew.setCell ⟨rb, 0, none⟩ (.int .i64 f)).setCell ⟨rb, 1, none⟩ tv
section
variable {W x : World} {rb i : Nat} {f : Int} {tv : Value} {g : Nat → Nat} {D : Nat → Bool}
theorem AS.start : AS W rb f tv (fun _ => 0) (fun _ => false) W.drew := ⟨fun _ => rfl, fun e => nomatch e⟩
theorem AS.go (h : AS W rb f tv g D x) (hi : (i != 13) = true) : AS W rb f tv g (updB D i) x := by
  have u1 := updB_ne (L := D) (i := i) (k := 13) (by intro e; simp [e] at hi)
  exact ⟨by rw [u1]; exact h.a, by rw [u1]; exact h.b⟩
theorem AS.stored (h : AS W rb f tv g D x) (hd : D 13 = false) : AS W rb f tv g (updB D 13) ((x.setCell ⟨rb, 0, none⟩ (.int .i64 f)).setCell ⟨rb, 1, none⟩ tv) := by
  rw [h.a hd]
  exact ⟨(fun e => by rw [updB_eq] at e; cases e), fun _ => rfl⟩
end
set_option maxRecDepth 20000 in
set_option maxHeartbeats 400000 in
theorem at_any {w0 : Wx} {w : World} {F : Nat → Prop} {wb g n most : Nat} {lv : Value} {S : St} {pn : Int → Int} {H : List HT} (h : Hf w0 w F wb lv g n most S pn H) (k : Int) {p : HT} {kk : Nat} (hk : (kk : Int) = k % (H.length : Int)) (hp : H[kk]? = some p) :
    Calls Tryd.prog 30 #[.pointer (some ⟨wb, 0, none⟩), .int .i64 k] w fun e w' => e = .returned (.agg #[.int .i64 p.1, p.2.1]) ∧ Below w.heap.size w w' := by
  have hlen : kk < H.length := (List.getElem?_eq_some_iff.1 hp).1
  have hfew := h.few
  obtain ⟨-, -, c3, -, hwb, -⟩ := h.cells
  obtain ⟨r, c, rfl, hr, d0, d1⟩ := h.hl.get hp
  obtain ⟨tr, tn, htv, hh⟩ : ∃ tr tn, p.2.1 = .slice (some ⟨tr, 0, none⟩) tn tn ∧ True := by
    obtain ⟨r, cs, e, -⟩ := (h.hl.tb p (List.mem_of_getElem? hp)).ex
    exact ⟨r, _, e, trivial⟩
  obtain ⟨f, tv, l⟩ := p
  dsimp only at htv d0 d1 ⊢
  subst htv
  obtain ⟨N, hN⟩ : ∃ N, N = H.length := ⟨_, rfl⟩
  rw [← hN] at c3 hlen hfew hk
  have HPL : Hid (∀ wx, Calls Tryd.prog 40 #[.int .i64 k, .int .i64 (N : Int)] wx fun e w' => e = .returned (.int .i64 (kk : Int)) ∧ w' = wx) := fun wx => by rw [hk]; exact place_any (by omega) (by omega) wx
  have hkN : (kk : Int) < (N : Int) := by omega
  have c3' : (w.alloc (.cells #[.int .i64 0, .slice none 0 0] 36)).cell? ⟨wb, 3, none⟩ = some (.slice (some ⟨r, 0, none⟩) N c) := (World.cell?_of_block (a := ⟨wb, 3, none⟩) (heap_alloc_old w _ hwb)).trans c3
  have d0' : (w.alloc (.cells #[.int .i64 0, .slice none 0 0] 36)).cell? ⟨r, kk * 2, none⟩ = some (.int .i64 f) := (World.cell?_of_block (a := ⟨r, kk * 2, none⟩) (heap_alloc_old w _ hr)).trans d0
  have d1' : (w.alloc (.cells #[.int .i64 0, .slice none 0 0] 36)).cell? ⟨r, kk * 2 + 1, none⟩ = some (.slice (some ⟨tr, 0, none⟩) tn tn) := (World.cell?_of_block (a := ⟨r, kk * 2 + 1, none⟩) (heap_alloc_old w _ hr)).trans d1
  have nb := heap_alloc_new w (.cells #[.int .i64 0, .slice none 0 0] 36)
  have n0 := cell_of nb 0 rfl
  have n1 := cell_of nb 1 rfl
  have nf : ∀ j, (w.alloc (.cells #[.int .i64 0, .slice none 0 0] 36)).frozen? ⟨w.heap.size, j, none⟩ = false := frz nb
  have HB1 : Hid (Below w.heap.size w (w.alloc (.cells #[.int .i64 0, .slice none 0 0] 36))) := by unfold Hid; go_grown
  clear hk hp hN c3 d0 d1 h nb hh
  go_enter Tryd.func30, Tryd.ntmps30
  go_upto_region 1 with fail
  obtain ⟨W, hW⟩ : ∃ W, W = w.alloc (.cells #[.int .i64 0, .slice none 0 0] 36) := ⟨_, rfl⟩
  rw [← hW] at c3' d0' d1' n0 n1 nf HB1 ⊢
  clear hW
  refine wp_named fun a0 ha0 => ?_
  have o0 := old_at ha0 (t := 0) rfl
  have o1 := old_at ha0 (t := 1) rfl
  have o4 := old_at ha0 (t := 4) rfl
  refine wp_region_lin (S := AS W w.heap.size f (.slice (some ⟨tr, 0, none⟩) tn tn)) [] (fun _ => 0) (by kernel_rfl) (by kernel_rfl) (by rw [← ha0]; kernel_rfl) (AS.start) ?_
  refine' LinAll.cons _ ?_ ?_ ?_
  rotate_left 1
  · intro gg L a x hLi haft hS hK
    have t0 := (hK.old 0 (by kernel_rfl)).trans o0
    (try dsimp only at t0)
    refine go_in (wanted_all rfl) ?_
    intro K hk
    clear haft hK hLi
    go_simp
    exact hk.out gg x (fun _ _ => rfl) (hS.go (by decide))
  · intro i hi; exact Or.inl (fun _ _ _ => rfl)
  refine' LinAll.cons _ ?_ ?_ ?_
  rotate_left 1
  · intro gg L a x hLi haft hS hK
    have t5 := hK.new 0 0 _ 5 _ rfl rfl rfl (by kernel_rfl) (waits haft 0 (by kernel_rfl))
    (try dsimp only at t5)
    refine go_in (wanted_all rfl) ?_
    intro K hk
    clear haft hK hLi
    go_simp
    exact hk.out gg x (fun _ _ => rfl) (hS.go (by decide))
  · intro i hi; exact Or.inl (fun _ _ _ => rfl)
  refine' LinAll.cons _ ?_ ?_ ?_
  rotate_left 1
  · intro gg L a x hLi haft hS hK
    have t6 := hK.new 1 0 _ 6 _ rfl rfl rfl (by kernel_rfl) (waits haft 1 (by kernel_rfl))
    (try dsimp only at t6)
    refine go_in (wanted_all rfl) ?_
    intro K hk
    clear haft hK hLi
    go_simp
    exact hk.out gg x (fun _ _ => rfl) (hS.go (by decide))
  · intro i hi; exact Or.inl (fun _ _ _ => rfl)
  refine' LinAll.cons _ ?_ ?_ ?_
  rotate_left 1
  · intro gg L a x hLi haft hS hK
    have t7 := hK.new 2 0 _ 7 _ rfl rfl rfl (by kernel_rfl) (waits haft 2 (by kernel_rfl))
    (try dsimp only at t7)
    have h13 : L 13 = false := off_b (fun e => waits (hK.cl 13 _ rfl e) 3 (by kernel_rfl)) hLi
    have hx := hS.a h13
    have cX : x.cell? ⟨wb, 3, none⟩ = some (.slice (some ⟨r, 0, none⟩) N c) := by rw [hx]; exact c3'
    clear hx h13
    refine go_in (wanted_all rfl) ?_
    intro K hk
    clear haft hK hLi
    go_simp
    exact hk.out gg x (fun _ _ => rfl) (hS.go (by decide))
  · intro i hi; exact Or.inl (fun _ _ _ => rfl)
  refine' LinAll.cons _ ?_ ?_ ?_
  rotate_left 1
  · intro gg L a x hLi haft hS hK
    have t1 := (hK.old 1 (by kernel_rfl)).trans o1
    (try dsimp only at t1)
    refine go_in (wanted_all rfl) ?_
    intro K hk
    clear haft hK hLi
    go_simp
    exact hk.out gg x (fun _ _ => rfl) (hS.go (by decide))
  · intro i hi; exact Or.inl (fun _ _ _ => rfl)
  refine' LinAll.cons _ ?_ ?_ ?_
  rotate_left 1
  · intro gg L a x hLi haft hS hK
    have t0 := (hK.old 0 (by kernel_rfl)).trans o0
    (try dsimp only at t0)
    refine go_in (wanted_all rfl) ?_
    intro K hk
    clear haft hK hLi
    go_simp
    exact hk.out gg x (fun _ _ => rfl) (hS.go (by decide))
  · intro i hi; exact Or.inl (fun _ _ _ => rfl)
  refine' LinAll.cons _ ?_ ?_ ?_
  rotate_left 1
  · intro gg L a x hLi haft hS hK
    have t10 := hK.new 5 0 _ 10 _ rfl rfl rfl (by kernel_rfl) (waits haft 5 (by kernel_rfl))
    (try dsimp only at t10)
    refine go_in (wanted_all rfl) ?_
    intro K hk
    clear haft hK hLi
    go_simp
    exact hk.out gg x (fun _ _ => rfl) (hS.go (by decide))
  · intro i hi; exact Or.inl (fun _ _ _ => rfl)
  refine' LinAll.cons _ ?_ ?_ ?_
  rotate_left 1
  · intro gg L a x hLi haft hS hK
    have t11 := hK.new 6 0 _ 11 _ rfl rfl rfl (by kernel_rfl) (waits haft 6 (by kernel_rfl))
    (try dsimp only at t11)
    refine go_in (wanted_all rfl) ?_
    intro K hk
    clear haft hK hLi
    go_simp
    exact hk.out gg x (fun _ _ => rfl) (hS.go (by decide))
  · intro i hi; exact Or.inl (fun _ _ _ => rfl)
  refine' LinAll.cons _ ?_ ?_ ?_
  rotate_left 1
  · intro gg L a x hLi haft hS hK
    have t12 := hK.new 7 0 _ 12 _ rfl rfl rfl (by kernel_rfl) (waits haft 7 (by kernel_rfl))
    (try dsimp only at t12)
    have h13 : L 13 = false := off_b (fun e => waits (hK.cl 13 _ rfl e) 8 (by kernel_rfl)) hLi
    have hx := hS.a h13
    have cX : x.cell? ⟨wb, 3, none⟩ = some (.slice (some ⟨r, 0, none⟩) N c) := by rw [hx]; exact c3'
    clear hx h13
    refine go_in (wanted_all rfl) ?_
    intro K hk
    clear haft hK hLi
    go_simp
    exact hk.out gg x (fun _ _ => rfl) (hS.go (by decide))
  · intro i hi; exact Or.inl (fun _ _ _ => rfl)
  refine' LinAll.cons _ ?_ ?_ ?_
  rotate_left 1
  · intro gg L a x hLi haft hS hK
    have t13 := hK.new 8 0 _ 13 _ rfl rfl rfl (by kernel_rfl) (waits haft 8 (by kernel_rfl))
    (try dsimp only at t13)
    refine go_in (wanted_all rfl) ?_
    intro K hk
    clear haft hK hLi
    go_simp
    exact hk.out gg x (fun _ _ => rfl) (hS.go (by decide))
  · intro i hi; exact Or.inl (fun _ _ _ => rfl)
  refine LinAll.cons (fun _ => .int .i64 (kk : Int)) ?_ ?_ ?_
  · intro gg L a x hLi haft hS hK
    have t9 := hK.new 4 5 _ 9 _ rfl rfl rfl (by kernel_rfl) (waits haft 4 (by kernel_rfl))
    have t14 := hK.new 9 0 _ 14 _ rfl rfl rfl (by kernel_rfl) (waits haft 9 (by kernel_rfl))
    (try dsimp only at t9 t14)
    refine go_in (wanted_all rfl) ?_
    intro K hk
    clear haft hK hLi
    go_simp
    refine Calls.mono (HPL.out x) ?_
    rintro e y ⟨rfl, hy⟩
    rw [hy]
    exact hk.out gg x (fun _ _ => rfl) (hS.go (by decide))
  · intro i hi; exact Or.inl (fun _ _ _ => rfl)
  refine' LinAll.cons _ ?_ ?_ ?_
  rotate_left 1
  · intro gg L a x hLi haft hS hK
    have t8 := hK.new 3 7 _ 8 _ rfl rfl rfl (by kernel_rfl) (waits haft 3 (by kernel_rfl))
    have t15 := hK.new 10 0 _ 15 _ rfl rfl rfl (by kernel_rfl) (waits haft 10 (by kernel_rfl))
    (try dsimp only at t8 t15)
    refine go_in (wanted_all rfl) ?_
    intro K hk
    clear haft hK hLi
    go_simp
    exact hk.out gg x (fun _ _ => rfl) (hS.go (by decide))
  · intro i hi; exact Or.inl (fun _ _ _ => rfl)
  refine' LinAll.cons _ ?_ ?_ ?_
  rotate_left 1
  · intro gg L a x hLi haft hS hK
    have t16 := hK.new 11 0 _ 16 _ rfl rfl rfl (by kernel_rfl) (waits haft 11 (by kernel_rfl))
    (try dsimp only at t16)
    have h13 : L 13 = false := off_b (fun e => waits (hK.cl 13 _ rfl e) 12 (by kernel_rfl)) hLi
    have hx := hS.a h13
    have cX0 : x.cell? ⟨r, kk * 2, none⟩ = some (.int .i64 f) := by rw [hx]; exact d0'
    have cX1 : x.cell? ⟨r, kk * 2 + 1, none⟩ = some (.slice (some ⟨tr, 0, none⟩) tn tn) := by rw [hx]; exact d1'
    clear hx h13
    refine go_in (wanted_all rfl) ?_
    intro K hk
    clear haft hK hLi
    go_simp
    exact hk.out gg x (fun _ _ => rfl) (hS.go (by decide))
  · intro i hi; exact Or.inl (fun _ _ _ => rfl)
  refine LinAll.cons (fun _ => undef) ?_ ?_ ?_
  · intro gg L a x hLi haft hS hK
    have t4 := (hK.old 4 (by kernel_rfl)).trans o4
    have t17 := hK.new 12 0 _ 17 _ rfl rfl rfl (by kernel_rfl) (waits haft 12 (by kernel_rfl))
    (try dsimp only at t4 t17)
    have hx := hS.a hLi
    have cX0 : x.cell? ⟨w.heap.size, 0, none⟩ = some (.int .i64 0) := by rw [hx]; exact n0
    have cX1 : x.cell? ⟨w.heap.size, 1, none⟩ = some (.slice none 0 0) := by rw [hx]; exact n1
    have fX0 : x.frozen? ⟨w.heap.size, 0, none⟩ = false := by rw [hx]; exact nf 0
    have fX1 : x.frozen? ⟨w.heap.size, 1, none⟩ = false := by rw [hx]; exact nf 1
    have hst := hS.stored hLi
    clear hx
    refine go_in (wanted_all rfl) ?_
    intro K hk
    clear haft hK hLi
    go_simp
    exact hk.out gg _ (fun _ _ => rfl) hst
  · intro i hi; exact Or.inl (fun _ _ _ => rfl)
  refine LinAll.nil fun gg x hS => ?_
  subst ha0
  simp only [Act.put, List.setIfInBounds_toArray, List.set_cons_zero, List.set_cons_succ]
  clear o0 o1 o4
  have hx := hS.b (by kernel_rfl)
  have e1 : x.cell? ⟨w.heap.size, 1, none⟩ = some (.slice (some ⟨tr, 0, none⟩) tn tn) := by
    rw [hx]
    exact World.cell?_setCell_same _ _ _ ((World.cell?_setCell_other _ _ _ _ (by simp)).trans n1)
  have e0 : x.cell? ⟨w.heap.size, 0, none⟩ = some (.int .i64 f) := by
    rw [hx]
    exact (World.cell?_setCell_other _ _ _ _ (by simp)).trans (World.cell?_setCell_same _ _ _ n0)
  have HBX : Hid (Below w.heap.size w x) := by
    rw [hx]
    exact (HB1.out.drew.setCell (p := ⟨w.heap.size, 0, none⟩) (Nat.le_refl _) _).setCell (p := ⟨w.heap.size, 1, none⟩) (Nat.le_refl _) _
  clear hx hS
  go_wp2_with fail
  refine bodyPost_ret (v := .agg #[.int .i64 f, .slice (some ⟨tr, 0, none⟩) tn tn]) (by simp [results, Tryd.results30, go_sem, e0, e1]) rfl ?_
  exact ⟨rfl, HBX.out⟩
end Go.Proofs.YtohfjpahdoodgaaDoor
