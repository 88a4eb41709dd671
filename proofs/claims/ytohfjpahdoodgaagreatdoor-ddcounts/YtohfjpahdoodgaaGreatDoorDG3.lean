/- A text's number, told by the document's words of 64 bits. -/
import Derived.Test.YtohfjpahdoodgaaGreatDoorMg37
import Derived.Test.YtohfjpahdoodgaaGreatDoorU20
import Derived.Deep.RegionWith
namespace Go.Proofs.YtohfjpahdoodgaaGreatDoor
open Go.RowKit
set_option linter.unusedSimpArgs false
set_option linter.unusedVariables false

theorem lo_small {p : Nat} (h : p < 2 ^ 64) : Ag.LO p = (p : Int) ∧ Ag.HI p = 0 := by
  unfold Ag.LO Ag.HI
  rw [Nat.mod_eq_of_lt h, Nat.div_eq_of_lt h]
  exact ⟨rfl, rfl⟩
abbrev b64 (p : Nat) : Value := .agg #[.int .i64 64, .int .u64 (p : Int), .int .u64 0]
theorem two_mul {p : Nat} (hp : p < 100) (wx : World) : Calls Tryz.prog 33 #[.int .i64 20, b64 p, .agg #[.int .i64 64, .int .u64 10, .int .u64 0]] wx fun e w' => e = .returned (.tuple #[b64 (p * 10), .int .i64 0]) ∧ Below wx.heap.size wx w' := by
  have HW : Hid (∀ (g g' c c' : Nat) (wx : World), Ag.Rd wx g 64 (Ag.bl 64 p) → Ag.Rd wx g' 64 (Ag.bl 64 10) → Calls Tryz.prog 49 #[.int .i64 20, .slice (some ⟨g, 0, none⟩) 64 c, .slice (some ⟨g', 0, none⟩) 64 c'] wx (Ag.Tw 64 (p * 10) wx)) := fun g g' c c' wx h1 h2 => by
    have := Ag.rwords_mul (c := c) (c' := c') h1 h2 (by decide) (by decide)
    rwa [show Ag.lowop 8 64 p 10 = p * 10 from Nat.mod_eq_of_lt (by omega)] at this
  have := Ag.reftwo_word (W := 64) (n := p) (m := 10) (N := p * 10) (op := 20) (by decide) (by decide) (by omega) (by decide) (by omega) HW wx
  rw [(lo_small (p := p) (by omega)).1, (lo_small (p := p) (by omega)).2, (lo_small (p := 10) (by decide)).1, (lo_small (p := 10) (by decide)).2, (lo_small (p := p * 10) (by omega)).1, (lo_small (p := p * 10) (by omega)).2] at this
  exact this
theorem two_add {p d : Nat} (hp : p < 1000) (hd : d < 10) (wx : World) : Calls Tryz.prog 33 #[.int .i64 18, b64 p, b64 d] wx fun e w' => e = .returned (.tuple #[b64 (p + d), .int .i64 0]) ∧ Below wx.heap.size wx w' := by
  have HW : Hid (∀ (g g' c c' : Nat) (wx : World), Ag.Rd wx g 64 (Ag.bl 64 p) → Ag.Rd wx g' 64 (Ag.bl 64 d) → Calls Tryz.prog 49 #[.int .i64 18, .slice (some ⟨g, 0, none⟩) 64 c, .slice (some ⟨g', 0, none⟩) 64 c'] wx (Ag.Tw 64 (p + d) wx)) := fun g g' c c' wx h1 h2 => by
    have := Ag.rwords_add (c := c) (c' := c') h1 h2 (by decide)
    rwa [show Ag.lowop 6 64 p d = p + d from Nat.mod_eq_of_lt (by omega)] at this
  have := Ag.reftwo_word (W := 64) (n := p) (m := d) (N := p + d) (op := 18) (by decide) (by decide) (by omega) (by omega) (by omega) HW wx
  rw [(lo_small (p := p) (by omega)).1, (lo_small (p := p) (by omega)).2, (lo_small (p := d) (by omega)).1, (lo_small (p := d) (by omega)).2, (lo_small (p := p + d) (by omega)).1, (lo_small (p := p + d) (by omega)).2] at this
  exact this
/-- A block holds a word. -/
structure Vb (w : World) (b p : Nat) : Prop where
  h : w.heap[b]? = some (.cells #[.int .i64 64, .int .u64 (p : Int), .int .u64 0] 47 (0, 0))
theorem Vb.put {w : World} {b p q : Nat} (h : Vb w b p) : Vb (((w.setCell ⟨b, 0, none⟩ (.int .i64 64)).setCell ⟨b, 1, none⟩ (.int .u64 (q : Int))).setCell ⟨b, 2, none⟩ (.int .u64 0)) b q := by
  have h1 := heap_setCell_same w b 0 _ _ (.int .i64 64) h.h
  have h2 := heap_setCell_same _ b 1 _ _ (.int .u64 (q : Int)) h1
  have h3 := heap_setCell_same _ b 2 _ _ (.int .u64 0) h2
  exact ⟨by simpa using h3⟩
theorem Vb.put' {w : World} {b p q : Nat} {y : Int} (h : Vb w b p) (hy : y = (q : Int)) : Vb (((w.setCell ⟨b, 0, none⟩ (.int .i64 64)).setCell ⟨b, 1, none⟩ (.int .u64 y)).setCell ⟨b, 2, none⟩ (.int .u64 0)) b q := by subst hy; exact h.put
theorem put_other {w : World} {b k : Nat} {x y z : Value} (h : k ≠ b) : (((w.setCell ⟨b, 0, none⟩ x).setCell ⟨b, 1, none⟩ y).setCell ⟨b, 2, none⟩ z).heap[k]? = w.heap[k]? :=
  ((heap_setCell_other _ _ _ _ h).trans (heap_setCell_other _ _ _ _ h)).trans (heap_setCell_other _ _ _ _ h)
/-- A drawn region that reads, calls what only adds blocks, and stores a word. -/
structure NS (W : World) (b r : Nat) (g : Nat → Nat) (D : Nat → Bool) (x : World) : Prop where
  a : D 11 = false → Below W.heap.size W x
  b : D 11 = true → ∃ y, Below W.heap.size W y ∧ x = ((y.setCell ⟨b, 0, none⟩ (.int .i64 64)).setCell ⟨b, 1, none⟩ (.int .u64 (r : Int))).setCell ⟨b, 2, none⟩ (.int .u64 0)
section
variable {W x y : World} {b r i : Nat} {g g' : Nat → Nat} {D : Nat → Bool}
theorem NS.start : NS W b r (fun _ => 0) (fun _ => false) W.drew := ⟨fun _ => ⟨rfl, rfl, rfl, Nat.le_refl _, fun _ _ => rfl⟩, fun e => nomatch e⟩
theorem NS.go (h : NS W b r g D x) (hi : (i != 11) = true) : NS W b r g' (updB D i) x := by
  have u1 := updB_ne (L := D) (i := i) (k := 11) (by intro e; simp [e] at hi)
  exact ⟨by rw [u1]; exact h.a, by rw [u1]; exact h.b⟩
theorem NS.called (h : NS W b r g D x) (hi : (i != 11) = true) (h11 : D 11 = false) (hb : Below x.heap.size x y) : NS W b r g' (updB D i) y := by
  have u1 := updB_ne (L := D) (i := i) (k := 11) (by intro e; simp [e] at hi)
  have h0 := h.a h11
  exact ⟨(fun _ => h0.trans (hb.mono h0.size)), fun e => by rw [u1, h11] at e; cases e⟩
theorem NS.stored (h : NS W b r g D x) (h11 : D 11 = false) : NS W b r g' (updB D 11) (((x.setCell ⟨b, 0, none⟩ (.int .i64 64)).setCell ⟨b, 1, none⟩ (.int .u64 (r : Int))).setCell ⟨b, 2, none⟩ (.int .u64 0)) :=
  ⟨(fun e => by rw [updB_eq] at e; cases e), fun _ => ⟨x, h.a h11, rfl⟩⟩
end
theorem put_below {w0 w : World} {b : Nat} {x y z : Value} (hb : Below w0.heap.size w0 w) (h : w0.heap.size ≤ b) : Below w0.heap.size w0 (((w.setCell ⟨b, 0, none⟩ x).setCell ⟨b, 1, none⟩ y).setCell ⟨b, 2, none⟩ z) :=
  ((hb.setCell (p := ⟨b, 0, none⟩) h _).setCell (p := ⟨b, 1, none⟩) h _).setCell (p := ⟨b, 2, none⟩) h _
/-- The number of the first i digits. -/
def preN (v i : Nat) : Nat := if i = 0 then 0 else if v < 10 then v else if i = 1 then v / 10 else v
theorem preN_step : ∀ v, v < 65 → ∀ i, i < (dgs v).length → (∀ h : i < (dgs v).toArray.size, 48 ≤ ((dgs v).toArray[i]'h).toNat ∧ ((dgs v).toArray[i]'h).toNat - 48 < 10 ∧ preN v i < 10 ∧ preN v (i + 1) = preN v i * 10 + (((dgs v).toArray[i]'h).toNat - 48)) := by decide +kernel
theorem preN_end : ∀ v, v < 65 → preN v (dgs v).length = v := by decide +kernel
set_option maxRecDepth 20000 in
set_option maxHeartbeats 3200000 in
theorem number_any {v : Nat} (hv : v < 65) (w : World) : Calls Tryz.prog 14 #[.string ⟨(dgs v).toArray⟩] w fun e w' => e = .returned (b64 v) ∧ Below w.heap.size w w' := by
  obtain ⟨s, hs⟩ : ∃ s : ByteArray, s = ⟨(dgs v).toArray⟩ := ⟨_, rfl⟩
  have hsz : s.size = (dgs v).length := by rw [hs]; rfl
  have hst : ∀ i, (h : i < s.size) → ∃ d : Nat, d < 10 ∧ (s[i]'h).toNat = 48 + d ∧ preN v i < 10 ∧ preN v (i + 1) = preN v i * 10 + d := by
    intro i h
    subst hs
    have hi : i < (dgs v).length := by rw [← hsz]; exact h
    obtain ⟨q1, q2, q3, q4⟩ := preN_step v hv i hi (by rw [List.size_toArray]; exact hi)
    exact ⟨_, q2, by show ((dgs v).toArray[i]).toNat = _; omega, q3, q4⟩
  have hen := preN_end v hv
  rw [← hsz] at hen
  rw [← hs]
  obtain ⟨N, hN⟩ : ∃ N, N = s.size := ⟨_, rfl⟩
  have hN2 : N ≤ 2 := by have := (dgs_len v).2; omega
  have HST : Hid _ := hst
  have HEN : Hid _ := hen
  have HN : Hid (N = s.size) := hN
  have hN2' : s.size ≤ 2 := by omega
  clear hst hen hs hsz
  go_enter Tryz.func14, Tryz.ntmps14
  go_upto_region 2 with fail
  obtain ⟨b2, hb2⟩ : ∃ b2, b2 = w.heap.size := ⟨_, rfl⟩
  obtain ⟨b3, hb3⟩ : ∃ b3, b3 = w.heap.size + 1 := ⟨_, rfl⟩
  obtain ⟨W1, hW1⟩ : ∃ W1, W1 = w.alloc (.cells #[.int .i64 0, .int .u64 0, .int .u64 0] 47) := ⟨_, rfl⟩
  obtain ⟨W, hW⟩ : ∃ W, W = W1.alloc (.cells #[.int .i64 64, .int .u64 0, .int .u64 0] 47) := ⟨_, rfl⟩
  have hs1 : W1.heap.size = w.heap.size + 1 := by rw [hW1]; exact size_alloc' _ _
  have hv3 : Vb W b3 0 := ⟨by rw [hW, hb3, ← hs1]; exact heap_alloc_new _ _⟩
  have hz2 : W.heap[b2]? = some (.cells #[.int .i64 0, .int .u64 0, .int .u64 0] 47 (0, 0)) := by
    rw [hW, heap_alloc_old _ _ (by omega), hW1, hb2]; exact heap_alloc_new _ _
  have hbl : Below w.heap.size w W := by rw [hW, hW1]; go_grown
  rw [← hW1, ← hW, ← hb3, ← hb2]
  have HST0 : Hid (Below w.heap.size w W ∧ Vb W b3 (preN v 0) ∧ W.heap[b2]? = some (.cells #[.int .i64 0, .int .u64 0, .int .u64 0] 47 (0, 0))) := ⟨hbl, hv3, hz2⟩
  have HLW : Hid (w.heap.size ≤ b2 ∧ w.heap.size ≤ b3 ∧ b2 ≠ b3) := ⟨by omega, by omega, by omega⟩
  clear hb2 hb3 hW1 hW hs1 hv3 hz2 hbl
  go_wp2_with fail
  go_loopw [4] (fun x wr => ∃ i : Nat, i ≤ N ∧ x = .int .i64 (i : Int) ∧ Hid (Below w.heap.size w wr ∧ Vb wr b3 (preN v i) ∧ wr.heap[b2]? = some (.cells #[.int .i64 0, .int .u64 0, .int .u64 0] 47 (0, 0)))) (fun x wr => N - (intOf x).toNat)
  case atStart => exact ⟨0, Nat.zero_le _, rfl, HST0.out⟩
  case round =>
    clear HST0
    obtain ⟨i, hi, rfl, hH⟩ := hrel
    obtain ⟨hbl, hvb, hz⟩ := hH.out
    by_cases hlt : i < s.size
    · have hltI : (i : Int) < (s.size : Int) := by omega
      obtain ⟨d, hd, hby, hp1, hp2⟩ := HST.out i hlt
      obtain ⟨p, hp⟩ : ∃ p, p = preN v i := ⟨_, rfl⟩
      rw [← hp] at hvb hp1 hp2
      have HM : Hid _ := two_mul (p := p) (by omega)
      have HA : Hid _ := two_add (p := p * 10) (d := d) (by omega) hd
      have HP2 : Hid (preN v (i + 1) = p * 10 + d) := hp2
      have c0 := cell_of hvb.h 0 rfl
      have c1 := cell_of hvb.h 1 rfl
      have c2 := cell_of hvb.h 2 rfl
      have lb := blk_lt hvb.h
      have HVB : Hid _ := hvb
      have HZ : Hid _ := hz
      have HBL : Hid _ := hbl
      have hfz := fun j => frz hvb.h j
      have hbyI : (s[i].toNat : Int) = 48 + (d : Int) := by omega
      have hwd : IntKind.u8.wrap (48 + (d : Int) - 48) = (d : Int) := by
        have : (48 + (d : Int) - 48) = (d : Int) := by omega
        rw [this]
        simp [IntKind.wrap, IntKind.signed, IntKind.bits]
        omega
      clear hvb hz hbl hp hp2 hH
      go_upto_region 6 with (go_at_call 33; refine Calls.mono (HM.out _) ?_; rintro e w4 ⟨rfl, hb4⟩; have c0' := bel_cell hb4 lb c0; have c1' := bel_cell hb4 lb c1; have c2' := bel_cell hb4 lb c2; have fz4 : ∀ j, w4.frozen? ⟨b3, j, none⟩ = false := fun j => frz ((hb4.block b3 lb).trans HVB.out.h) j; have f0 := fz4 0; have f1 := fz4 1; have f2 := fz4 2)
      obtain ⟨q, hq⟩ : ∃ q, q = p * 10 := ⟨_, rfl⟩
      have hV5 : Vb (((w4.setCell ⟨b3, 0, none⟩ (.int .i64 64)).setCell ⟨b3, 1, none⟩ (.int .u64 ((p : Int) * 10))).setCell ⟨b3, 2, none⟩ (.int .u64 0)) b3 q := (Vb.mk ((hb4.block b3 lb).trans HVB.out.h)).put' (by rw [hq]; simp)
      have hB5 : Below w.heap.size w (((w4.setCell ⟨b3, 0, none⟩ (.int .i64 64)).setCell ⟨b3, 1, none⟩ (.int .u64 ((p : Int) * 10))).setCell ⟨b3, 2, none⟩ (.int .u64 0)) := put_below (HBL.out.trans (hb4.mono HBL.out.size)) HLW.out.2.1
      have hZ5 : (((w4.setCell ⟨b3, 0, none⟩ (.int .i64 64)).setCell ⟨b3, 1, none⟩ (.int .u64 ((p : Int) * 10))).setCell ⟨b3, 2, none⟩ (.int .u64 0)).heap[b2]? = some (.cells #[.int .i64 0, .int .u64 0, .int .u64 0] 47 (0, 0)) := (put_other HLW.out.2.2).trans ((hb4.block b2 (blk_lt HZ.out)).trans HZ.out)
      obtain ⟨V5, hv5⟩ : ∃ V5, V5 = (((w4.setCell ⟨b3, 0, none⟩ (.int .i64 64)).setCell ⟨b3, 1, none⟩ (.int .u64 ((p : Int) * 10))).setCell ⟨b3, 2, none⟩ (.int .u64 0)) := ⟨_, rfl⟩
      rw [← hv5] at hV5 hB5 hZ5 ⊢
      rw [← hq] at HA HP2
      clear hv5 hq c0 c1 c2 c0' c1' c2' fz4 f0 f1 f2 hfz HM lb HVB HZ HBL hb4
      have HV5 : Hid _ := hV5
      have HB5 : Hid _ := hB5
      have HZ5 : Hid _ := hZ5
      have c0 := cell_of hV5.h 0 rfl
      have c1 := cell_of hV5.h 1 rfl
      have c2 := cell_of hV5.h 2 rfl
      have lb := blk_lt hV5.h
      clear hV5 hB5 hZ5
      have hwd2 : IntKind.u8.wrap (d : Int) = (d : Int) := by
        simp [IntKind.wrap, IntKind.signed, IntKind.bits]
        omega
      have hwd3 : IntKind.u64.wrap (d : Int) = (d : Int) := by
        simp [IntKind.wrap, IntKind.signed, IntKind.bits]
        omega
      go_upto_region 6 with fail
      refine wp_named fun a0 ha0 => ?_
      have o0 := old_at ha0 (t := 0) rfl
      have o3 := old_at ha0 (t := 3) rfl
      have o4 := old_at ha0 (t := 4) rfl
      refine wp_region_lin (S := NS V5 b3 (q + d)) [] (fun _ => 0) (by kernel_rfl) (by kernel_rfl) (by rw [← ha0]; kernel_rfl) (NS.start) ?_
      refine LinAll.cons (fun _ => b64 q) ?_ ?_ ?_
      · intro gg L a x hLi haft hS hK
        have t3 := (hK.old 3 (by kernel_rfl)).trans o3
        (try dsimp only at t3)
        have h11 : L 11 = false := off_b (fun e => waits (hK.cl 11 _ rfl e) 0 (by kernel_rfl)) hLi
        have hx := hS.a h11
        have cX0 := bel_cell hx lb c0
        have cX1 := bel_cell hx lb c1
        have cX2 := bel_cell hx lb c2
        clear hx h11
        refine go_in (wanted_all rfl) ?_
        intro K hk
        clear haft hK hLi
        go_simp
        exact hk.out gg x (fun _ _ => rfl) (hS.go (by decide))
      · intro i hi; exact Or.inl (fun _ _ _ => rfl)
      refine' LinAll.cons _ ?_ ?_ ?_
      rotate_left 1
      · intro gg L a x hLi haft hS hK
        have t0 := (hK.old 0 (by kernel_rfl)).trans o0
        (try dsimp only at t0)
        refine go_in (wanted_all rfl) ?_
        intro K hk
        clear haft hK hLi
        go_simp
        exact hk.out gg x (fun _ _ => rfl) (hS.go (by decide))
      · intro i hi; exact Or.inl (fun _ _ _ => rfl)
      refine' LinAll.cons _ ?_ ?_ ?_
      rotate_left 1
      · intro gg L a x hLi haft hS hK
        have t4 := (hK.old 4 (by kernel_rfl)).trans o4
        (try dsimp only at t4)
        refine go_in (wanted_all rfl) ?_
        intro K hk
        clear haft hK hLi
        go_simp
        exact hk.out gg x (fun _ _ => rfl) (hS.go (by decide))
      · intro i hi; exact Or.inl (fun _ _ _ => rfl)
      refine LinAll.cons (fun _ => .int .u8 (48 + (d : Int))) ?_ ?_ ?_
      · intro gg L a x hLi haft hS hK
        have t20 := hK.new 1 1 _ 20 _ rfl rfl rfl (by kernel_rfl) (waits haft 1 (by kernel_rfl))
        have t21 := hK.new 2 0 _ 21 _ rfl rfl rfl (by kernel_rfl) (waits haft 2 (by kernel_rfl))
        (try dsimp only at t20 t21)
        refine go_in (wanted_all rfl) ?_
        intro K hk
        clear haft hK hLi
        go_simp
        exact hk.out gg x (fun _ _ => rfl) (hS.go (by decide))
      · intro i hi; exact Or.inl (fun _ _ _ => rfl)
      refine LinAll.cons (fun _ => .int .u8 (d : Int)) ?_ ?_ ?_
      · intro gg L a x hLi haft hS hK
        have t22 := hK.new 3 0 _ 22 _ rfl rfl rfl (by kernel_rfl) (waits haft 3 (by kernel_rfl))
        (try dsimp only at t22)
        refine go_in (wanted_all rfl) ?_
        intro K hk
        clear haft hK hLi
        go_simp
        exact hk.out gg x (fun _ _ => rfl) (hS.go (by decide))
      · intro i hi; exact Or.inl (fun _ _ _ => rfl)
      refine LinAll.cons (fun _ => .int .u64 (d : Int)) ?_ ?_ ?_
      · intro gg L a x hLi haft hS hK
        have t23 := hK.new 4 0 _ 23 _ rfl rfl rfl (by kernel_rfl) (waits haft 4 (by kernel_rfl))
        (try dsimp only at t23)
        refine go_in (wanted_all rfl) ?_
        intro K hk
        clear haft hK hLi
        go_simp
        exact hk.out gg x (fun _ _ => rfl) (hS.go (by decide))
      · intro i hi; exact Or.inl (fun _ _ _ => rfl)
      refine LinAll.cons (fun _ => b64 d) ?_ ?_ ?_
      · intro gg L a x hLi haft hS hK
        have t24 := hK.new 5 0 _ 24 _ rfl rfl rfl (by kernel_rfl) (waits haft 5 (by kernel_rfl))
        (try dsimp only at t24)
        refine go_in (wanted_all rfl) ?_
        intro K hk
        clear haft hK hLi
        go_simp
        exact hk.out gg x (fun _ _ => rfl) (hS.go (by decide))
      · intro i hi; exact Or.inl (fun _ _ _ => rfl)
      refine LinAll.cons (fun _ => .tuple #[b64 (q + d), .int .i64 0]) ?_ ?_ ?_
      · intro gg L a x hLi haft hS hK
        have t19 := hK.new 0 6 _ 19 _ rfl rfl rfl (by kernel_rfl) (waits haft 0 (by kernel_rfl))
        have t25 := hK.new 6 0 _ 25 _ rfl rfl rfl (by kernel_rfl) (waits haft 6 (by kernel_rfl))
        (try dsimp only at t19 t25)
        refine go_in (wanted_all rfl) ?_
        intro K hk
        have h11 : L 11 = false := off_b (fun e => waits (hK.cl 11 _ rfl e) 7 (by kernel_rfl)) hLi
        clear haft hK hLi
        go_simp
        refine Calls.mono (HA.out x) ?_
        rintro e y ⟨rfl, hy⟩
        exact hk.out gg y (fun _ _ => rfl) (hS.called (by decide) h11 hy)
      · intro i hi; exact Or.inl (fun _ _ _ => rfl)
      refine LinAll.cons (fun _ => .tuple #[b64 (q + d), .int .i64 0]) ?_ ?_ ?_
      · intro gg L a x hLi haft hS hK
        have t26 := hK.new 7 0 _ 26 _ rfl rfl rfl (by kernel_rfl) (waits haft 7 (by kernel_rfl))
        (try dsimp only at t26)
        refine go_in (wanted_all rfl) ?_
        intro K hk
        clear haft hK hLi
        go_simp
        exact hk.out gg x (fun _ _ => rfl) (hS.go (by decide))
      · intro i hi; exact Or.inl (fun _ _ _ => rfl)
      refine LinAll.cons (fun _ => b64 (q + d)) ?_ ?_ ?_
      · intro gg L a x hLi haft hS hK
        have t18 := hK.new 8 0 _ 18 _ rfl rfl rfl (by kernel_rfl) (waits haft 8 (by kernel_rfl))
        (try dsimp only at t18)
        refine go_in (wanted_all rfl) ?_
        intro K hk
        clear haft hK hLi
        go_simp
        exact hk.out gg x (fun _ _ => rfl) (hS.go (by decide))
      · intro i hi; exact Or.inl (fun _ _ _ => rfl)
      refine' LinAll.cons _ ?_ ?_ ?_
      rotate_left 1
      · intro gg L a x hLi haft hS hK
        have t18 := hK.new 8 1 _ 18 _ rfl rfl rfl (by kernel_rfl) (waits haft 8 (by kernel_rfl))
        (try dsimp only at t18)
        refine go_in (wanted_all rfl) ?_
        intro K hk
        clear haft hK hLi
        go_simp
        exact hk.out gg x (fun _ _ => rfl) (hS.go (by decide))
      · intro i hi; exact Or.inl (fun _ _ _ => rfl)
      refine LinAll.cons (fun _ => undef) ?_ ?_ ?_
      · intro gg L a x hLi haft hS hK
        have t3 := (hK.old 3 (by kernel_rfl)).trans o3
        have t27 := hK.new 9 1 _ 27 _ rfl rfl rfl (by kernel_rfl) (waits haft 9 (by kernel_rfl))
        (try dsimp only at t3 t27)
        have hx := hS.a hLi
        have cX0 := bel_cell hx lb c0
        have cX1 := bel_cell hx lb c1
        have cX2 := bel_cell hx lb c2
        have fX : ∀ j, x.frozen? ⟨b3, j, none⟩ = false := fun j => frz ((hx.block b3 lb).trans HV5.out.h) j
        have f0 := fX 0
        have f1 := fX 1
        have f2 := fX 2
        have hst := hS.stored (g' := gg) hLi
        clear hx fX
        refine go_in (wanted_all rfl) ?_
        intro K hk
        clear haft hK hLi
        go_simp
        exact hk.out gg _ (fun _ _ => rfl) hst
      · intro i hi; exact Or.inl (fun _ _ _ => rfl)
      refine LinAll.nil fun g6 V6 hS => ?_
      subst ha0
      simp only [Act.put, List.setIfInBounds_toArray, List.set_cons_zero, List.set_cons_succ]
      clear o0 o3 o4
      obtain ⟨Z, hz1, hz2⟩ := hS.b (by kernel_rfl)
      have HEND : Hid (Below w.heap.size w V6 ∧ Vb V6 b3 (preN v (i + 1)) ∧ V6.heap[b2]? = some (.cells #[.int .i64 0, .int .u64 0, .int .u64 0] 47 (0, 0))) := by
        rw [hz2, HP2.out]
        exact ⟨put_below (HB5.out.trans (hz1.mono HB5.out.size)) HLW.out.2.1, (Vb.mk ((hz1.block b3 lb).trans HV5.out.h)).put, (put_other HLW.out.2.2).trans ((hz1.block b2 (blk_lt HZ5.out)).trans HZ5.out)⟩
      have hiB : (i : Int) < 1000 := by omega
      clear hS hz1 hz2 c0 c1 c2
      go_wp2_with fail
      exact ⟨⟨i + 1, by have := HN.out; omega, by go_num, HEND.out⟩, by have := HN.out; simp [intOf]; omega⟩
    · have hiI : decide ((i : Int) < (s.size : Int)) = false := by simp; omega
      have hie : preN v i = v := by rw [show i = s.size by have := HN.out; omega]; exact HEN.out
      rw [hie] at hvb
      have c0 := cell_of hvb.h 0 rfl
      have c1 := cell_of hvb.h 1 rfl
      have c2 := cell_of hvb.h 2 rfl
      have d0 := cell_of hz 0 rfl
      have d1 := cell_of hz 1 rfl
      have d2 := cell_of hz 2 rfl
      have e0 := frz hz 0
      have e1 := frz hz 1
      have e2 := frz hz 2
      have HBL : Hid _ := hbl
      have HZZ : Hid _ := hz
      clear hvb hz hbl hH hie
      go_wp2_with fail
      have hV := (Vb.mk (p := v) (b := b2) (w := ((wr.setCell ⟨b2, 0, none⟩ (.int .i64 64)).setCell ⟨b2, 1, none⟩ (.int .u64 (v : Int))).setCell ⟨b2, 2, none⟩ (.int .u64 0)) (by
        have h1 := heap_setCell_same wr b2 0 _ _ (.int .i64 64) HZZ.out
        have h2 := heap_setCell_same _ b2 1 _ _ (.int .u64 (v : Int)) h1
        have h3 := heap_setCell_same _ b2 2 _ _ (.int .u64 0) h2
        simpa using h3)).h
      have hB := put_below (b := b2) (x := .int .i64 64) (y := .int .u64 (v : Int)) (z := .int .u64 0) HBL.out HLW.out.1
      obtain ⟨V7, h7⟩ : ∃ V7, V7 = ((wr.setCell ⟨b2, 0, none⟩ (.int .i64 64)).setCell ⟨b2, 1, none⟩ (.int .u64 (v : Int))).setCell ⟨b2, 2, none⟩ (.int .u64 0) := ⟨_, rfl⟩
      rw [← h7] at hV hB ⊢
      have r0 := cell_of hV 0 rfl
      have r1 := cell_of hV 1 rfl
      have r2 := cell_of hV 2 rfl
      clear h7
      refine bodyPost_ret (v := b64 v) (by simp [results, Tryz.results14, go_sem, r0, r1, r2]) rfl ?_
      exact ⟨rfl, hB⟩
end Go.Proofs.YtohfjpahdoodgaaGreatDoor
