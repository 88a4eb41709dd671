/- Contracts (dd): the count of a diagram (at most 58 variables). -/
import Derived.Test.YtkmkmgnfolpphaaDoorDE18
import Derived.Test.YtkmkmgnfolpphaaDoorDDA
namespace Go.Proofs.YtkmkmgnfolpphaaDoor
open Go.RowKit
set_option linter.unusedSimpArgs false
set_option linter.unusedVariables false

theorem infoDec : (Tryd.prog.info? 87).map (fun i => (i.zero, i.size, i.bytes)) = some (some (.slice none 0 0), 1, 24) := by kernel_rfl
theorem underDecs : Tryd.prog.underlying 100 = some (.slice 87) := by kernel_rfl
/-- v is a slice of one number, not in block cb. -/
structure Uc (w : World) (cb : Nat) (v : Value) (x : Int) : Prop where
  ex : ∃ r o c, v = .slice (some ⟨r, o, none⟩) 1 c ∧ r < w.heap.size ∧ r ≠ cb ∧ w.cell? ⟨r, o, none⟩ = some (.int .u64 x)
theorem Uc.um {w : World} {cb : Nat} {v : Value} {x : Int} (h : Uc w cb v x) : Um w v x := by
  obtain ⟨r, o, c, e, h1, h2, h3⟩ := h.ex
  exact ⟨r, o, c, e, h1, h3⟩
theorem Uc.kept {w w' : World} {cb : Nat} {v : Value} {x : Int} (h : Uc w cb v x) (hs : w.heap.size ≤ w'.heap.size) (hk : ∀ k, k < w.heap.size → k ≠ cb → w'.heap[k]? = w.heap[k]?) : Uc w' cb v x := by
  obtain ⟨r, o, c, e, h1, h2, h3⟩ := h.ex
  exact ⟨r, o, c, e, Nat.lt_of_lt_of_le h1 hs, h2, (World.cell?_of_block (hk r h1 h2)).trans h3⟩
theorem Un.uc {w : World} {B cb : Nat} {v : Value} {x : Int} (h : Un w B v x) (hc : cb < B) : Uc w cb v x := by
  obtain ⟨r, e, h1, h2, h3, -⟩ := h.ex
  exact ⟨r, 0, 1, e, h2, by omega, h3⟩
/-- A region that reads, calls what only adds blocks, and stores the answer into a row. -/
structure CS (W : World) (cb j : Nat) (m : Int) (g : Nat → Nat) (D : Nat → Bool) (x : World) : Prop where
  d : D 14 = true → D 12 = true
  a : D 14 = false → Below W.heap.size W x ∧ (D 12 = true → Un x W.heap.size (.slice (some ⟨g 12, 0, none⟩) 1 1) m)
  b : D 14 = true → ∃ y, Below W.heap.size W y ∧ Un y W.heap.size (.slice (some ⟨g 12, 0, none⟩) 1 1) m ∧ x = y.setCell ⟨cb, j, none⟩ (.slice (some ⟨g 12, 0, none⟩) 1 1)
section
variable {W x y : World} {cb j i r : Nat} {m : Int} {g : Nat → Nat} {D : Nat → Bool}
theorem CS.start : CS W cb j m (fun _ => 0) (fun _ => false) W.drew :=
  ⟨(fun e => nomatch e), fun _ => ⟨⟨rfl, rfl, rfl, Nat.le_refl _, fun _ _ => rfl⟩, fun e => nomatch e⟩, fun e => nomatch e⟩
theorem CS.go (h : CS W cb j m g D x) (hi : (i != 12 && i != 14) = true) : CS W cb j m g (updB D i) x := by
  simp only [Bool.and_eq_true, bne_iff_ne, ne_eq] at hi
  have u1 := updB_ne (L := D) (i := i) (k := 12) (by omega)
  have u2 := updB_ne (L := D) (i := i) (k := 14) (by omega)
  exact ⟨by rw [u1, u2]; exact h.d, by rw [u1, u2]; exact h.a, by rw [u2]; exact h.b⟩
theorem CS.called (h : CS W cb j m g D x) (h14 : D 14 = false) (hb : Below x.heap.size x y) (hu : Un y x.heap.size (.slice (some ⟨r, 0, none⟩) 1 1) m) : CS W cb j m (updG g 12 r) (updB D 12) y := by
  have u2 := updB_ne (L := D) (i := 12) (k := 14) (by decide)
  obtain ⟨h1, -⟩ := h.a h14
  have hs := h1.size
  refine ⟨(by rw [u2, h14]; intro e; cases e), fun _ => ⟨h1.trans (hb.mono hs), fun _ => ?_⟩, (by rw [u2, h14]; intro e; cases e)⟩
  rw [updG_eq]
  obtain ⟨r', e, q1, q2, q3, q4⟩ := hu.ex
  exact ⟨r', e, by omega, q2, q3, q4⟩
theorem CS.stored (h : CS W cb j m g D x) (h14 : D 14 = false) (h12 : D 12 = true) : CS W cb j m g (updB D 14) (x.setCell ⟨cb, j, none⟩ (.slice (some ⟨g 12, 0, none⟩) 1 1)) := by
  have u1 := updB_ne (L := D) (i := 14) (k := 12) (by decide)
  obtain ⟨h1, h2⟩ := h.a h14
  exact ⟨fun _ => by rw [u1]; exact h12, (fun e => by rw [updB_eq] at e; cases e), fun _ => ⟨x, h1, h2 h12, rfl⟩⟩
end
theorem cv_int {vars : Nat} {ns : List T3} {sp : List Int} (g : Good vars ns sp) (hv : vars ≤ 58) {i : Int} (hi : alive ns i) : ((cv vars ns i : Nat) : Int) ≤ 288230376151711744 := by
  have h1 := cv_bd g hi
  have h2 : (2 ^ vars : Nat) ≤ 2 ^ 58 := Nat.pow_le_pow_right (by decide) hv
  have h3 : (2 ^ 58 : Nat) = 288230376151711744 := by decide
  omega
set_option maxRecDepth 20000 in
set_option maxHeartbeats 6400000 in
theorem count1 {w : World} {F0 : Nat → Prop} {g vars most : Nat} {S : St} {pn : Int → Int} (h0 : Gr w F0 g vars most S pn) (hv : vars ≤ 58) (f : Int) (ha : alive S.ns f) :
    Calls Tryd.prog 42 #[.pointer (some ⟨g, 0, none⟩), .int .i64 f] w fun e w' => ∃ u, e = .returned u ∧ Um w' u (cv vars S.ns f : Nat) ∧ Below w.heap.size w w' := by
  have h := h0.cut
  have hFl : ∀ k, Fc w F0 k → k < w.heap.size := fun k hk => hk.2
  have good := h.mg.good
  have hlen := h.mg.len
  have hmo := h.mg.mo
  have hns2 := good.len
  have HGR : Hid (Gr w (Fc w F0) g vars most S pn) := h
  have HFL : Hid _ := hFl
  have HGOOD : Hid _ := good
  have HA : Hid (alive S.ns f) := ha
  obtain ⟨N, hN⟩ : ∃ N, N = S.ns.length := ⟨_, rfl⟩
  have HN : Hid _ := hN
  have nodes : ∀ wx, Below w.heap.size w wx → ∃ r cap, wx.cell? ⟨g, 0, none⟩ = some (.int .i64 (vars : Int)) ∧ wx.cell? ⟨g, 2, none⟩ = some (.slice (some ⟨r, 0, none⟩) N cap) ∧ r < w.heap.size ∧ ∀ j, j < N → wx.cell? ⟨r, j * 3, none⟩ = some (.int .i64 (at3 S.ns (j : Int)).1) ∧ wx.cell? ⟨r, j * 3 + 1, none⟩ = some (.int .i64 (at3 S.ns (j : Int)).2.1) ∧ wx.cell? ⟨r, j * 3 + 2, none⟩ = some (.int .i64 (at3 S.ns (j : Int)).2.2) := fun wx hb => by
    obtain ⟨m, p, v, u, hx, -⟩ := HGR.out
    obtain ⟨r, cap, hvv, hrl, -, -, hc⟩ := hx.sl
    have c2 := hx.c2
    have c0 := hx.c0
    have hg := hx.lt
    rw [hvv] at c2
    rw [hN]
    refine ⟨r, cap, bel_cell hb hg c0, bel_cell hb hg c2, hrl, fun j hj => ?_⟩
    obtain ⟨d0, d1, d2⟩ := hc j hj
    exact ⟨bel_cell hb hrl d0, bel_cell hb hrl d1, bel_cell hb hrl d2⟩
  have HND : Hid _ := nodes
  have hg := h.lt
  have hNb : N ≤ 20000 := by omega
  have hN2 : 2 ≤ N := by omega
  have hmk : ∀ wx, (Instr.makeSlice 100 (.int .i64 (N : Int)) (.int .i64 (N : Int))).run Tryd.prog wx = .ok (.slice (some ⟨wx.heap.size, 0, none⟩) N N) (wx.alloc (.cells (madeCells #[.slice none 0 0] N) 87)) := fun wx => run_make_row' (P := Tryd.prog) 100 87 (.slice none 0 0) 24 underDecs infoDec rfl .i64 .i64 N (by omega) (by omega) wx
  have hmk1 := make1
  have e1 : ((vars : Int)).tdiv 59 = 0 := Int.tdiv_eq_zero_of_lt (by omega) (by omega)
  have HPW : Hid (∀ wx, Calls Tryd.prog 50 #[.int .i64 (vars : Int)] wx fun e w' => ∃ t, e = .returned t ∧ Un w' wx.heap.size t (2 ^ vars : Nat) ∧ Below wx.heap.size wx w') := fun wx => pow1 vars hv wx
  obtain ⟨r0, cap0, c0, c2, hr0, -⟩ := HND.out w (Below.refl _ _)
  have HV58 : Hid (vars ≤ 58) := hv
  clear h h0 hFl good ha hN nodes hlen
  go_enter Tryd.func42, Tryd.ntmps42
  go_upto_region 2 with fail
  obtain ⟨W1, hW1⟩ : ∃ W1, W1 = w.alloc (.cells (madeCells #[.slice none 0 0] N) 87) := ⟨_, rfl⟩
  have hB1 : Below w.heap.size w W1 := by rw [hW1]; go_grown
  have hR1 : W1.rowIs w.heap.size 87 N (fun _ => .slice none 0 0) := by rw [hW1]; exact World.rowIs_made _ _ _ _
  have hs1 : W1.heap.size = w.heap.size + 1 := by rw [hW1]; simp
  rw [← hW1]
  clear hW1 c0 c2
  obtain ⟨cb, hcb⟩ : ∃ cb, cb = w.heap.size := ⟨_, rfl⟩
  rw [← hcb] at hR1 ⊢
  have HCB : Hid (cb = w.heap.size) := hcb
  obtain ⟨r1, cap1, c0, -⟩ := HND.out W1 hB1
  have k0 : W1.cell? ⟨cb, 0, none⟩ = some (.slice none 0 0) := hR1.cell (by omega)
  have kf : ∀ i, W1.frozen? ⟨cb, i, none⟩ = false := hR1.frozen
  have hcl : cb < W1.heap.size := hR1.lt
  have hgl : g < W1.heap.size := by omega
  have h0N : (0 : Int) < (N : Int) := by omega
  have h1N : (1 : Int) < (N : Int) := by omega
  have HR1 : Hid _ := hR1
  have HB1 : Hid _ := hB1
  have HS1 : Hid _ := hs1
  clear hR1 hB1 hs1 hcb
  go_upto_region 3 with fail
  obtain ⟨W2, hW2⟩ : ∃ W2, W2 = (W1.setCell ⟨cb, 0, none⟩ (.slice (some ⟨W1.heap.size, 0, none⟩) 1 1)).alloc (.cells #[.int .u64 0] 102) := ⟨_, rfl⟩
  have hR2 : W2.rowIs cb 87 N (fun j => if j = 0 then .slice (some ⟨W1.heap.size, 0, none⟩) 1 1 else .slice none 0 0) := by rw [hW2]; exact World.rowIs.alloc (World.rowIs.set HR1.out 0 _) _
  have hB2 : Below w.heap.size w W2 := by
    rw [hW2]
    refine Below.alloc ?_ (by rw [World.size_setCell, HS1.out]; omega) _
    exact ⟨HB1.out.os, HB1.out.tape, HB1.out.output, by rw [World.size_setCell]; exact HB1.out.size, fun q hq => (heap_setCell_other _ _ _ _ (by show q ≠ cb; have := HCB.out; omega)).trans (HB1.out.block q hq)⟩
  have hz0 : Uc W2 cb (.slice (some ⟨W1.heap.size, 0, none⟩) 1 1) 0 := by
    refine ⟨W1.heap.size, 0, 1, rfl, by rw [hW2, size_alloc', World.size_setCell]; omega, by omega, ?_⟩
    rw [hW2]
    have e : W1.heap.size = (W1.setCell ⟨cb, 0, none⟩ (.slice (some ⟨W1.heap.size, 0, none⟩) 1 1)).heap.size := by rw [World.size_setCell]
    have := cell_of (heap_alloc_new (W1.setCell ⟨cb, 0, none⟩ (.slice (some ⟨W1.heap.size, 0, none⟩) 1 1)) (.cells #[.int .u64 0] 102)) 0 rfl
    rwa [← e] at this
  obtain ⟨z0, hz⟩ : ∃ z0, z0 = Value.slice (some ⟨W1.heap.size, 0, none⟩) 1 1 := ⟨_, rfl⟩
  rw [← hz] at hR2 hz0
  rw [← hW2]
  have hcl2 : cb < W2.heap.size := hR2.lt
  have HR2 : Hid _ := hR2
  have HB2 : Hid _ := hB2
  have HZ0 : Hid _ := hz0
  clear hW2 hz hz0 c0 k0 kf hcl hgl hmk1 hmk e1
  obtain ⟨r2, cap2, c0, -⟩ := HND.out W2 hB2
  clear hB2 hR2
  go_wp2_with fail
  refine Calls.mono (HPW.out W2) ?_
  rintro e W3 ⟨t, rfl, hun, hb3⟩
  obtain ⟨rt, ht, ht1, ht2, ht3, ht4⟩ := hun.ex
  subst ht
  have hR3 := World.rowIs.of_block HR2.out (hb3.block cb hcl2)
  have HB3 : Hid (Below w.heap.size w W3) := HB2.out.trans (hb3.mono HB2.out.size)
  have HZ3 : Hid (Uc W3 cb z0 0) := HZ0.out.kept hb3.size (fun k hk _ => hb3.block k hk)
  have HT3 : Hid (Uc W3 cb (.slice (some ⟨rt, 0, none⟩) 1 1) (2 ^ vars : Nat)) := hun.uc hcl2
  have k1 : W3.cell? ⟨cb, 1, none⟩ = some (.slice none 0 0) := hR3.cell (by omega)
  have kf : ∀ i, W3.frozen? ⟨cb, i, none⟩ = false := hR3.frozen
  have HR3 : Hid _ := hR3
  clear hR3 hb3 hun ht1 ht2 ht3 ht4
  go_upto_region 4 with fail
  obtain ⟨W4, hW4⟩ : ∃ W4, W4 = W3.setCell ⟨cb, 1, none⟩ (.slice (some ⟨rt, 0, none⟩) 1 1) := ⟨_, rfl⟩
  have hR4 : W4.rowIs cb 87 N (fun j => if j = 1 then (.slice (some ⟨rt, 0, none⟩) 1 1) else if j = 0 then z0 else .slice none 0 0) := by rw [hW4]; exact World.rowIs.set HR3.out 1 _
  have hk4 : ∀ k, k < W3.heap.size → k ≠ cb → W4.heap[k]? = W3.heap[k]? := fun k hk hne => by rw [hW4]; exact heap_setCell_other _ _ _ _ (by show k ≠ cb; exact hne)
  have hs4 : W4.heap.size = W3.heap.size := by rw [hW4, World.size_setCell]
  have HB4 : Hid (Below w.heap.size w W4) := ⟨by rw [hW4]; exact HB3.out.os, by rw [hW4]; exact HB3.out.tape, by rw [hW4]; exact HB3.out.output, by rw [hs4]; exact HB3.out.size, fun q hq => (hk4 q (Nat.lt_of_lt_of_le hq HB3.out.size) (by have := HCB.out; omega)).trans (HB3.out.block q hq)⟩
  have HF4 : Hid (∀ c : Nat, (c = 0 ∨ c = 1) → Uc W4 cb (if c = 1 then (.slice (some ⟨rt, 0, none⟩) 1 1) else if c = 0 then z0 else .slice none 0 0) (cv vars S.ns (c : Int) : Nat)) := fun c hc => by
    rcases hc with rfl | rfl
    · have : cv vars S.ns ((0 : Nat) : Int) = 0 := by rw [cv_le (by decide)]; rfl
      rw [this]; exact HZ3.out.kept (by omega) hk4
    · have : cv vars S.ns ((1 : Nat) : Int) = 2 ^ vars := by rw [cv_le (by decide)]; rfl
      rw [this]; exact HT3.out.kept (by omega) hk4
  obtain ⟨t, ht⟩ : ∃ t, t = Value.slice (some ⟨rt, 0, none⟩) 1 1 := ⟨_, rfl⟩
  rw [← ht] at hR4 HF4
  rw [← hW4]
  have hcl4 : cb < W4.heap.size := hR4.lt
  have HR4 : Hid _ := hR4
  clear hW4 hR4 hk4 k1 kf c0 hs4 ht
  have hWA : Hid _ := walk_any (HGR.out.bel HFL.out HB4.out)
  rw [← HN.out] at hWA
  go_wp2_with fail
  refine Calls.mono hWA.out ?_
  rintro e W5 ⟨mb, rfl, hb5, hbo⟩
  have HB5 : Hid (Below W4.heap.size W4 W5) := hb5
  have HBO : Hid _ := hbo
  have hs5 := hb5.size
  clear hb5 hbo hWA
  go_upto_region 5 with fail
  obtain ⟨W6, hW6⟩ : ∃ W6, W6 = W5.alloc (.cells #[.pointer (some ⟨g, 1, none⟩), .slice (some ⟨mb, 0, none⟩) N N, .slice none 0 0] 83) := ⟨_, rfl⟩
  have hB6 : Below W4.heap.size W4 W6 := by rw [hW6]; exact HB5.out.alloc hs5 _
  have hWk : Wk W6 W4.heap.size W5.heap.size g (v0F N) 20000 := by
    refine ⟨⟨mb, .slice none 0 0, ?_, ⟨?_⟩, World.ownsRow_nil _ _ _ _⟩, hs5, Nat.le_trans (v0_cf N) hNb, Nat.le_refl _⟩
    · rw [hW6]; simp only [v0F, List.length_replicate]; exact heap_alloc_new _ _
    · rw [hW6]; simp only [v0F, List.length_replicate]
      have := row_kept HBO.out.row (fun k hk => heap_alloc_old W5 (.cells #[.pointer (some ⟨g, 1, none⟩), .slice (some ⟨mb, 0, none⟩) N N, .slice none 0 0] 83) hk)
      simpa using this
  rw [← hW6]
  have hVI : Hid _ := vis_any (vars + 1) W6 (Fc w F0) W4.heap.size g vars most W5.heap.size 20000 S pn (v0F N) f ((HGR.out.bel HFL.out HB4.out).below hB6) (fun k hk => Nat.lt_of_lt_of_le (HFL.out k hk) HB4.out.size) hWk (by simp [v0F]; exact HN.out) HA.out (by have := (HGOOD.out.var HA.out).1; omega)
  obtain ⟨wb, hwb⟩ : ∃ wb, wb = W5.heap.size := ⟨_, rfl⟩
  rw [← hwb] at hVI ⊢
  have HB6 : Hid _ := hB6
  clear hW6 hB6 hWk hs5 hwb
  go_wp2_with fail
  refine Calls.mono hVI.out ?_
  rintro e W7 ⟨rfl, hb7, hw7, -⟩
  have HB7 : Hid (Below W4.heap.size W4 W7) := HB6.out.trans hb7
  obtain ⟨od, hod⟩ : ∃ od, od = odF vars S.ns f := ⟨_, rfl⟩
  have hodv : (visF S.ns (vars + 1) (v0F N) f).od = od := by rw [hod, HN.out]; rfl
  obtain ⟨mb2, ov2, v0, -, v2⟩ := hw7.ex
  rw [hodv] at v2
  have hbd := hw7.bd
  rw [hodv] at hbd
  have d2 : W7.cell? ⟨wb, 2, none⟩ = some ov2 := cell_of v0 2 rfl
  have HOD : Hid _ := hod
  obtain ⟨L7, hL7⟩ : ∃ L, L = od.length := ⟨_, rfl⟩
  obtain ⟨a2, cap2', hov⟩ : ∃ a c, ov2 = .slice a L7 c := by
    rcases v2.2 with ⟨q, hn⟩ | ⟨r, cap, cur, q, _⟩
    · exact ⟨none, 0, by rw [q, hL7, hn]⟩
    · exact ⟨_, cap, by rw [q, hL7]⟩
  have HOV : Hid (Is' W7 W4.heap.size (.slice a2 L7 cap2') od) := by unfold Hid; rw [← hov]; exact v2
  subst hov
  have HL7 : Hid _ := hL7
  have hLb : L7 ≤ 20000 := by omega
  have HR7 : Hid (W7.rowIs cb 87 N (fun j => if j = 1 then t else if j = 0 then z0 else .slice none 0 0)) := World.rowIs.of_block HR4.out (HB7.out.block cb hcl4)
  have HF7 : Hid (∀ c : Nat, (c = 0 ∨ c = 1) → Uc W7 cb (if c = 1 then t else if c = 0 then z0 else .slice none 0 0) (cv vars S.ns (c : Int) : Nat)) := fun c hc => (HF4.out c hc).kept HB7.out.size (fun k hk _ => HB7.out.block k hk)
  have HBW7 : Hid (Below w.heap.size w W7) := HB4.out.trans (HB7.out.mono HB4.out.size)
  clear hb7 hw7 hodv hod v0 v2 hbd hL7 hVI hNb
  -- what the walk has met
  have hvo := vis_ok HGOOD.out (vars + 1) (v0F S.ns.length) f (fun _ => False) (v0_vi S.ns) HA.out (by have := (HGOOD.out.var HA.out).1; omega) (fun _ h => h.elim)
  have hmem : ∀ i ∈ od, 2 ≤ i ∧ alive S.ns i := fun i hi => by
    rw [HOD.out] at hi
    have := hvo.1.mem i hi
    exact ⟨this.1, this.2.1⟩
  have hkid : ∀ a i b, od = a ++ i :: b → ((at3 S.ns i).2.1 ≤ 1 ∨ (at3 S.ns i).2.1 ∈ a) ∧ ((at3 S.ns i).2.2 ≤ 1 ∨ (at3 S.ns i).2.2 ∈ a) := fun a i b e => hvo.1.kid a i b (by rw [HOD.out] at e; exact e)
  have hfin : f ≤ 1 ∨ f ∈ od := by rw [HOD.out]; exact hvo.2.1
  have HMEM : Hid _ := hmem
  have HKID : Hid _ := hkid
  have HFIN : Hid _ := hfin
  clear hvo hmem hkid hfin
  go_wp2_with fail
  clear d2
  go_loopw [42] (fun i wr => ∃ (k : Nat) (fC : Nat → Value), k ≤ L7 ∧ i = .int .i64 (k : Int) ∧ Hid (wr.rowIs cb 87 N fC) ∧ Hid (∀ c : Nat, (c = 0 ∨ c = 1 ∨ (c : Int) ∈ od.take k) → Uc wr cb (fC c) (cv vars S.ns (c : Int) : Nat)) ∧ Hid (W7.heap.size ≤ wr.heap.size ∧ ∀ q, q < W7.heap.size → q ≠ cb → wr.heap[q]? = W7.heap[q]?) ∧ Below w.heap.size w wr) (fun i wr => L7 - (intOf i).toNat)
  case atStart => exact ⟨0, _, Nat.zero_le _, rfl, HR7.out, (fun c hc => HF7.out c (by simpa using hc)), ⟨Nat.le_refl _, fun _ _ _ => rfl⟩, HBW7.out⟩
  case round =>
    obtain ⟨k, fC, hk, rfl, hR, hF, hK7, hB⟩ := hrel
    by_cases hlt : k < L7
    · have hltI : (k : Int) < (L7 : Int) := by omega
      have hkl : k < od.length := by rw [← HL7.out]; exact hlt
      obtain ⟨x0, hx0⟩ : ∃ x0, x0 = od[k] := ⟨_, rfl⟩
      obtain ⟨m2, ma⟩ := HMEM.out x0 (by rw [hx0]; exact List.getElem_mem hkl)
      have hsplit : od = od.take k ++ x0 :: od.drop (k + 1) := by rw [hx0, ← List.drop_eq_getElem_cons hkl, List.take_append_drop]
      obtain ⟨kd1, kd2⟩ := HKID.out _ _ _ hsplit
      obtain ⟨q1, q2, q3, q4, q5, q6, q7⟩ := HGOOD.out.nd x0 m2 ma
      have hev := cv_even HGOOD.out ma m2
      obtain ⟨jj, hjj, hjl⟩ := ma.nat
      obtain ⟨la, hla, hlal⟩ := q4.nat
      obtain ⟨ha, hha, hhal⟩ := q5.nat
      obtain ⟨ro, oo, hoo⟩ : ∃ ro, a2 = some ⟨ro, 0, none⟩ ∧ ro < W7.heap.size ∧ ro ≠ cb ∧ W7.cell? ⟨ro, k, none⟩ = some (.int .i64 x0) := by
        rcases HOV.out.li (by intro e; rw [e] at hkl; simp at hkl) with ⟨r, cap, e, -, -, hli⟩
        injection e with e _ _
        have h1 := hli k hkl
        rw [Nat.zero_add, List.getD_eq_getElem?_getD, List.getElem?_eq_getElem hkl] at h1
        have h2 : W7.cell? ⟨r, k, none⟩ = some (.int .i64 x0) := by rw [hx0]; exact h1
        refine ⟨r, e, World.block_lt_of_cell? _ _ h2, fun q => ?_, h2⟩
        obtain ⟨c3, h3⟩ := row_cur HOV.out (b := r) (by rw [e]; rfl)
        obtain ⟨c4, h4⟩ : ∃ c4, W7.heap[cb]? = some (.cells c4 87) := by obtain ⟨c4, h4, _⟩ := HR7.out; exact ⟨c4, h4⟩
        rw [q, h4] at h3
        simp at h3
      obtain ⟨hro, hrc, hcx⟩ := hoo
      subst oo
      have co : wr.cell? ⟨ro, k, none⟩ = some (.int .i64 (jj : Int)) := by
        rw [← hjj]; exact (World.cell?_of_block (hK7.out.2 ro hro hrc)).trans hcx
      obtain ⟨rn, capn, c0, c2, hrn, hcn⟩ := HND.out wr hB
      obtain ⟨n0, n1, n2⟩ := hcn jj (by rw [HN.out]; exact hjl)
      rw [← hjj, hla] at n1
      rw [← hjj, hha] at n2
      obtain ⟨V, hV⟩ : ∃ V, V = (at3 S.ns (jj : Int)).1 := ⟨_, rfl⟩
      rw [← hV] at n0
      have hjI : (jj : Int) < (N : Int) := by have := HN.out; omega
      have hlaI : (la : Int) < (N : Int) := by have := HN.out; omega
      have hhaI : (ha : Int) < (N : Int) := by have := HN.out; omega
      have hrnl : rn < wr.heap.size := by have := hB.size; omega
      have kid2 : ∀ c : Nat, ((c : Int) ≤ 1 ∨ (c : Int) ∈ od.take k) → (c = 0 ∨ c = 1 ∨ (c : Int) ∈ od.take k) := fun c hc => by
        rcases hc with h | h
        · omega
        · exact Or.inr (Or.inr h)
      have hul := hF.out la (kid2 la (by rw [← hla]; exact kd1))
      have huh := hF.out ha (kid2 ha (by rw [← hha]; exact kd2))
      rw [hla, hha] at hev
      obtain ⟨vl, hvl⟩ : ∃ v, v = fC la := ⟨_, rfl⟩
      obtain ⟨vh, hvh⟩ : ∃ v, v = fC ha := ⟨_, rfl⟩
      obtain ⟨vj, hvj⟩ : ∃ v, v = fC jj := ⟨_, rfl⟩
      rw [← hvl] at hul
      rw [← hvh] at huh
      obtain ⟨W, hW⟩ : ∃ W, W = wr.alloc (.cells #[.int .i64 V, .int .i64 (la : Int), .int .i64 (ha : Int)] 80) := ⟨_, rfl⟩
      obtain ⟨nb, hnb⟩ : ∃ nb, nb = wr.heap.size := ⟨_, rfl⟩
      have hWr : Below wr.heap.size wr W := by rw [hW]; exact (Below.refl _ _).alloc (Nat.le_refl _) _
      have hsW : W.heap.size = wr.heap.size + 1 := by rw [hW]; simp
      have hRW : W.rowIs cb 87 N fC := by rw [hW]; exact World.rowIs.alloc hR.out _
      have HNB : Hid (nb < W.heap.size) := by unfold Hid; omega
      have HC1 : Hid (W.cell? ⟨nb, 1, none⟩ = some (.int .i64 (la : Int))) := by unfold Hid; rw [hnb, hW]; simp
      have HC2 : Hid (W.cell? ⟨nb, 2, none⟩ = some (.int .i64 (ha : Int))) := by unfold Hid; rw [hnb, hW]; simp
      have HCBW : Hid (cb < W.heap.size) := hRW.lt
      have HCL : Hid (W.cell? ⟨cb, la, none⟩ = some vl) := by unfold Hid; rw [hvl]; exact hRW.cell (by omega)
      have HCH : Hid (W.cell? ⟨cb, ha, none⟩ = some vh) := by unfold Hid; rw [hvh]; exact hRW.cell (by omega)
      have HCJ : Hid (W.cell? ⟨cb, jj, none⟩ = some vj) := by unfold Hid; rw [hvj]; exact hRW.cell (by omega)
      have HFJ : Hid (W.frozen? ⟨cb, jj, none⟩ = false) := hRW.frozen jj
      obtain ⟨m, hm⟩ : ∃ m : Int, m = (cv vars S.ns (jj : Int) : Nat) := ⟨_, rfl⟩
      have HMN : Hid (∀ x, Below W.heap.size W x → Calls Tryd.prog 51 #[vl, vh] x fun e w' => ∃ t, e = .returned t ∧ Un w' x.heap.size t m ∧ Below x.heap.size x w') := fun x hx => by
        have hbx : Below wr.heap.size wr x := hWr.trans (hx.mono hWr.size)
        have ql := cv_int HGOOD.out HV58.out q4
        have qh := cv_int HGOOD.out HV58.out q5
        rw [hla] at ql
        rw [hha] at qh
        refine mean1 (m := m) (hul.um.bel hbx) (huh.um.bel hbx) (Int.natCast_nonneg _) (Int.natCast_nonneg _) (by omega) ?_
        rw [hm, ← hjj]; omega
      have HM : Hid _ := hm
      have HJJ : Hid (x0 = (jj : Int)) := hjj
      have HSP : Hid _ := hsplit
      have HBWW : Hid (Below w.heap.size w W) := hB.trans (hWr.mono hB.size)
      have HRW : Hid _ := hRW
      have HWR : Hid (Below wr.heap.size wr W) := hWr
      have HNXT : Hid (wr.alloc (.cells #[.int .i64 V, .int .i64 (la : Int), .int .i64 (ha : Int)] 80) = W) := hW.symm
      have hsz := hB.size
      have HKL : Hid (∃ h : k < od.length, x0 = od[k]) := ⟨hkl, hx0⟩
      have HFO : Hid _ := hF.out
      clear hcn hV hWr hRW hm hvl hvh hvj hul huh kid2 hev hla hlal hha hhal q1 q2 q3 q4 q5 q6 q7 kd1 kd2 hjj hsplit hx0 hW hcx hkl hsW hjl m2 ma
      go_upto_region 10 with fail
      rw [HNXT.out, ← hnb]
      clear hnb co c0 c2 n0 n1 n2
      refine wp_named fun a0 ha0 => ?_
      have o5 := old_at ha0 (t := 5) rfl
      have o8 := old_at ha0 (t := 8) rfl
      have o9 := old_at ha0 (t := 9) rfl
      refine wp_region_lin (S := CS W cb jj m) [12] (fun _ => 0) (by kernel_rfl) (by kernel_rfl) (by rw [← ha0]; kernel_rfl) (CS.start) ?_
      refine' LinAll.cons _ ?_ ?_ ?_
      rotate_left 1
      · intro gg L a x hLi haft hS hK
        have t5 := (hK.old 5 (by kernel_rfl)).trans o5
        (try dsimp only at t5)
        refine go_in (wanted_all rfl) ?_
        intro K hk
        clear haft hK hLi
        go_simp
        exact hk.out gg x (fun _ _ => rfl) (hS.go (by decide))
      · intro i hi; exact Or.inl (fun _ _ _ => rfl)
      refine' LinAll.cons _ ?_ ?_ ?_
      rotate_left 1
      · intro gg L a x hLi haft hS hK
        have t8 := (hK.old 8 (by kernel_rfl)).trans o8
        (try dsimp only at t8)
        refine go_in (wanted_all rfl) ?_
        intro K hk
        clear haft hK hLi
        go_simp
        exact hk.out gg x (fun _ _ => rfl) (hS.go (by decide))
      · intro i hi; exact Or.inl (fun _ _ _ => rfl)
      refine' LinAll.cons _ ?_ ?_ ?_
      rotate_left 1
      · intro gg L a x hLi haft hS hK
        have t5 := (hK.old 5 (by kernel_rfl)).trans o5
        (try dsimp only at t5)
        refine go_in (wanted_all rfl) ?_
        intro K hk
        clear haft hK hLi
        go_simp
        exact hk.out gg x (fun _ _ => rfl) (hS.go (by decide))
      · intro i hi; exact Or.inl (fun _ _ _ => rfl)
      refine' LinAll.cons _ ?_ ?_ ?_
      rotate_left 1
      · intro gg L a x hLi haft hS hK
        have t9 := (hK.old 9 (by kernel_rfl)).trans o9
        (try dsimp only at t9)
        refine go_in (wanted_all rfl) ?_
        intro K hk
        clear haft hK hLi
        go_simp
        exact hk.out gg x (fun _ _ => rfl) (hS.go (by decide))
      · intro i hi; exact Or.inl (fun _ _ _ => rfl)
      refine' LinAll.cons _ ?_ ?_ ?_
      rotate_left 1
      · intro gg L a x hLi haft hS hK
        have t57 := hK.new 3 0 _ 57 _ rfl rfl rfl (by kernel_rfl) (waits haft 3 (by kernel_rfl))
        (try dsimp only at t57)
        have h14 : L 14 = false := off_b (fun e => waits (hK.cl 14 _ rfl e) 4 (by kernel_rfl)) hLi
        have hWx := (hS.a h14).1
        have cX : x.cell? ⟨nb, 1, none⟩ = some (.int .i64 (la : Int)) := (hWx.cell (p := ⟨nb, 1, none⟩) HNB.out).trans HC1.out
        refine go_in (wanted_all rfl) ?_
        intro K hk
        clear haft hK hLi
        go_simp
        exact hk.out gg x (fun _ _ => rfl) (hS.go (by decide))
      · intro i hi; exact Or.inl (fun _ _ _ => rfl)
      refine' LinAll.cons _ ?_ ?_ ?_
      rotate_left 1
      · intro gg L a x hLi haft hS hK
        have t56 := hK.new 2 2 _ 56 _ rfl rfl rfl (by kernel_rfl) (waits haft 2 (by kernel_rfl))
        have t58 := hK.new 4 0 _ 58 _ rfl rfl rfl (by kernel_rfl) (waits haft 4 (by kernel_rfl))
        (try dsimp only at t56 t58)
        refine go_in (wanted_all rfl) ?_
        intro K hk
        clear haft hK hLi
        go_simp
        exact hk.out gg x (fun _ _ => rfl) (hS.go (by decide))
      · intro i hi; exact Or.inl (fun _ _ _ => rfl)
      refine' LinAll.cons _ ?_ ?_ ?_
      rotate_left 1
      · intro gg L a x hLi haft hS hK
        have t59 := hK.new 5 0 _ 59 _ rfl rfl rfl (by kernel_rfl) (waits haft 5 (by kernel_rfl))
        (try dsimp only at t59)
        have h14 : L 14 = false := off_b (fun e => waits (hK.cl 14 _ rfl e) 6 (by kernel_rfl)) hLi
        have hWx := (hS.a h14).1
        have cX : x.cell? ⟨cb, la, none⟩ = some vl := (hWx.cell (p := ⟨cb, la, none⟩) HCBW.out).trans HCL.out
        refine go_in (wanted_all rfl) ?_
        intro K hk
        clear haft hK hLi
        go_simp
        exact hk.out gg x (fun _ _ => rfl) (hS.go (by decide))
      · intro i hi; exact Or.inl (fun _ _ _ => rfl)
      refine' LinAll.cons _ ?_ ?_ ?_
      rotate_left 1
      · intro gg L a x hLi haft hS hK
        have t5 := (hK.old 5 (by kernel_rfl)).trans o5
        (try dsimp only at t5)
        refine go_in (wanted_all rfl) ?_
        intro K hk
        clear haft hK hLi
        go_simp
        exact hk.out gg x (fun _ _ => rfl) (hS.go (by decide))
      · intro i hi; exact Or.inl (fun _ _ _ => rfl)
      refine' LinAll.cons _ ?_ ?_ ?_
      rotate_left 1
      · intro gg L a x hLi haft hS hK
        have t9 := (hK.old 9 (by kernel_rfl)).trans o9
        (try dsimp only at t9)
        refine go_in (wanted_all rfl) ?_
        intro K hk
        clear haft hK hLi
        go_simp
        exact hk.out gg x (fun _ _ => rfl) (hS.go (by decide))
      · intro i hi; exact Or.inl (fun _ _ _ => rfl)
      refine' LinAll.cons _ ?_ ?_ ?_
      rotate_left 1
      · intro gg L a x hLi haft hS hK
        have t62 := hK.new 8 0 _ 62 _ rfl rfl rfl (by kernel_rfl) (waits haft 8 (by kernel_rfl))
        (try dsimp only at t62)
        have h14 : L 14 = false := off_b (fun e => waits (hK.cl 14 _ rfl e) 9 (by kernel_rfl)) hLi
        have hWx := (hS.a h14).1
        have cX : x.cell? ⟨nb, 2, none⟩ = some (.int .i64 (ha : Int)) := (hWx.cell (p := ⟨nb, 2, none⟩) HNB.out).trans HC2.out
        refine go_in (wanted_all rfl) ?_
        intro K hk
        clear haft hK hLi
        go_simp
        exact hk.out gg x (fun _ _ => rfl) (hS.go (by decide))
      · intro i hi; exact Or.inl (fun _ _ _ => rfl)
      refine' LinAll.cons _ ?_ ?_ ?_
      rotate_left 1
      · intro gg L a x hLi haft hS hK
        have t61 := hK.new 7 2 _ 61 _ rfl rfl rfl (by kernel_rfl) (waits haft 7 (by kernel_rfl))
        have t63 := hK.new 9 0 _ 63 _ rfl rfl rfl (by kernel_rfl) (waits haft 9 (by kernel_rfl))
        (try dsimp only at t61 t63)
        refine go_in (wanted_all rfl) ?_
        intro K hk
        clear haft hK hLi
        go_simp
        exact hk.out gg x (fun _ _ => rfl) (hS.go (by decide))
      · intro i hi; exact Or.inl (fun _ _ _ => rfl)
      refine' LinAll.cons _ ?_ ?_ ?_
      rotate_left 1
      · intro gg L a x hLi haft hS hK
        have t64 := hK.new 10 0 _ 64 _ rfl rfl rfl (by kernel_rfl) (waits haft 10 (by kernel_rfl))
        (try dsimp only at t64)
        have h14 : L 14 = false := off_b (fun e => waits (hK.cl 14 _ rfl e) 11 (by kernel_rfl)) hLi
        have hWx := (hS.a h14).1
        have cX : x.cell? ⟨cb, ha, none⟩ = some vh := (hWx.cell (p := ⟨cb, ha, none⟩) HCBW.out).trans HCH.out
        refine go_in (wanted_all rfl) ?_
        intro K hk
        clear haft hK hLi
        go_simp
        exact hk.out gg x (fun _ _ => rfl) (hS.go (by decide))
      · intro i hi; exact Or.inl (fun _ _ _ => rfl)
      refine LinAll.cons (fun g => .slice (some ⟨g 12, 0, none⟩) 1 1) ?_ ?_ ?_
      · intro gg L a x hLi haft hS hK
        have t60 := hK.new 6 5 _ 60 _ rfl rfl rfl (by kernel_rfl) (waits haft 6 (by kernel_rfl))
        have t65 := hK.new 11 0 _ 65 _ rfl rfl rfl (by kernel_rfl) (waits haft 11 (by kernel_rfl))
        (try dsimp only at t60 t65)
        have h14 : L 14 = false := off_b (fun e => waits (hK.cl 14 _ rfl e) 12 (by kernel_rfl)) hLi
        have hWx := (hS.a h14).1
        refine go_in (wanted_all rfl) ?_
        intro K hk
        clear haft hK hLi
        go_simp
        refine Calls.mono (HMN.out x hWx) ?_
        rintro e y ⟨t, rfl, hun, hby⟩
        obtain ⟨r, rfl, hu1, hu2, hu3, hu4⟩ := hun.ex
        have hq := hk.out (updG gg 12 r) y (updG_al (by rfl)) (hS.called h14 hby ⟨r, rfl, hu1, hu2, hu3, hu4⟩)
        dsimp only at hq; rw [updG_eq] at hq; exact hq
      · intro i hi
        simp only [List.mem_cons, List.not_mem_nil, or_false] at hi
        rcases hi with rfl
        · exact Or.inr (by kernel_rfl)
      refine' LinAll.cons _ ?_ ?_ ?_
      rotate_left 1
      · intro gg L a x hLi haft hS hK
        have t54 := hK.new 0 12 _ 54 _ rfl rfl rfl (by kernel_rfl) (waits haft 0 (by kernel_rfl))
        have t55 := hK.new 1 11 _ 55 _ rfl rfl rfl (by kernel_rfl) (waits haft 1 (by kernel_rfl))
        (try dsimp only at t54 t55)
        refine go_in (wanted_all rfl) ?_
        intro K hk
        clear haft hK hLi
        go_simp
        exact hk.out gg x (fun _ _ => rfl) (hS.go (by decide))
      · intro i hi; exact Or.inl (fun _ _ _ => rfl)
      refine LinAll.cons (fun _ => undef) ?_ ?_ ?_
      · intro gg L a x hLi haft hS hK
        have t66 := hK.new 12 1 _ 66 _ rfl rfl rfl (by kernel_rfl) (waits haft 12 (by kernel_rfl))
        have t67 := hK.new 13 0 _ 67 _ rfl rfl rfl (by kernel_rfl) (waits haft 13 (by kernel_rfl))
        (try dsimp only at t66 t67)
        have h12 := waits haft 12 (by kernel_rfl)
        have hWx := (hS.a hLi).1
        have cX : x.cell? ⟨cb, jj, none⟩ = some vj := (hWx.cell (p := ⟨cb, jj, none⟩) HCBW.out).trans HCJ.out
        have fX : x.frozen? ⟨cb, jj, none⟩ = false := (hWx.frozen (p := ⟨cb, jj, none⟩) HCBW.out).trans HFJ.out
        have hst := hS.stored hLi h12
        refine go_in (wanted_all rfl) ?_
        intro K hk
        clear haft hK hLi
        go_simp
        exact hk.out gg _ (fun _ _ => rfl) hst
      · intro i hi; exact Or.inl (fun _ _ _ => rfl)
      refine LinAll.nil fun gg x hS => ?_
      subst ha0
      simp only [Act.put, List.setIfInBounds_toArray, List.set_cons_zero, List.set_cons_succ]
      clear o5 o8 o9
      obtain ⟨y, hby, huy, hxy⟩ := hS.b rfl
      obtain ⟨sv, hsv⟩ : ∃ sv, sv = Value.slice (some ⟨gg 12, 0, none⟩) 1 1 := ⟨_, rfl⟩
      rw [← hsv] at huy hxy
      have hRy : y.rowIs cb 87 N fC := World.rowIs.of_block HRW.out (hby.block cb HCBW.out)
      have HRX : Hid (x.rowIs cb 87 N (fun j => if j = jj then sv else fC j)) := by unfold Hid; rw [hxy]; exact World.rowIs.set hRy jj sv
      have hWy : Below wr.heap.size wr y := HWR.out.trans (hby.mono HWR.out.size)
      have hsx : x.heap.size = y.heap.size := by rw [hxy, World.size_setCell]
      have hox : ∀ q, q < y.heap.size → q ≠ cb → x.heap[q]? = y.heap[q]? := fun q hq hne => by rw [hxy]; exact heap_setCell_other _ _ _ _ (by show q ≠ cb; exact hne)
      have hwy := hWy.size
      have HFX : Hid (∀ c : Nat, (c = 0 ∨ c = 1 ∨ (c : Int) ∈ od.take (k + 1)) → Uc x cb (if c = jj then sv else fC c) (cv vars S.ns (c : Int) : Nat)) := fun c hc => by
        by_cases e : c = jj
        · rw [if_pos e, e, ← HM.out]
          exact (huy.uc HCBW.out).kept (by omega) hox
        · rw [if_neg e]
          have hc' : c = 0 ∨ c = 1 ∨ (c : Int) ∈ od.take k := by
            rcases hc with h | h | h
            · exact Or.inl h
            · exact Or.inr (Or.inl h)
            · obtain ⟨hkl, hx0⟩ := HKL.out
              rw [List.take_succ_eq_append_getElem hkl] at h
              rcases List.mem_append.1 h with h | h
              · exact Or.inr (Or.inr h)
              · have h9 := List.mem_singleton.1 h
                rw [← hx0, HJJ.out] at h9
                exact absurd (by omega) e
          exact ((HFO.out c hc').kept hwy (fun q hq _ => hWy.block q hq)).kept (by omega) hox
      have HKX : Hid (W7.heap.size ≤ x.heap.size ∧ ∀ q, q < W7.heap.size → q ≠ cb → x.heap[q]? = W7.heap[q]?) := by
        have h7 := hK7.out.1
        exact ⟨by omega, fun q hq hne => (hox q (by omega) hne).trans ((hWy.block q (by omega)).trans (hK7.out.2 q hq hne))⟩
      have HBX : Hid (Below w.heap.size w x) := by
        have hbw : Below w.heap.size w y := hB.trans (hWy.mono hB.size)
        exact ⟨by rw [hxy]; exact hbw.os, by rw [hxy]; exact hbw.tape, by rw [hxy]; exact hbw.output, by rw [hsx]; exact hbw.size, fun q hq => (hox q (by have := hbw.size; omega) (by have := HCB.out; omega)).trans (hbw.block q hq)⟩
      clear hS hby huy hxy hsv hRy hWy hsx hox hwy
      go_wp2_with fail
      exact ⟨⟨k + 1, _, by omega, by go_num, HRX.out, HFX.out, HKX.out, HBX.out⟩, by simp [intOf]; omega⟩
    · obtain rfl : k = L7 := by omega
      have hltI : ¬ (k : Int) < (k : Int) := by omega
      obtain ⟨jf, hjf, hjl⟩ := HA.out.nat
      have hful : od.take k = od := by rw [HL7.out]; exact List.take_length
      have huf := hF.out jf (by
        rw [hful]
        rcases HFIN.out with h | h
        · omega
        · exact Or.inr (Or.inr (by rw [← hjf]; exact h)))
      rw [← hjf] at huf
      have cf : wr.cell? ⟨cb, jf, none⟩ = some (fC jf) := World.rowIs.cell hR.out (by rw [HN.out]; exact hjl)
      obtain ⟨rr, orr, crr, e, h1, h2, h3⟩ := huf.ex
      rw [e] at cf
      have HU : Hid (Um wr (.slice (some ⟨rr, orr, none⟩) 1 crr) (cv vars S.ns f : Nat)) := by unfold Hid; rw [← e]; exact huf.um
      have hjI : (jf : Int) < (N : Int) := by have := HN.out; omega
      have HFJ : Hid (f = (jf : Int)) := hjf
      clear huf e h1 h2 h3 hful hjl
      rw [HFJ.out] at HU ⊢
      clear hjf
      go_wp2_with fail
      go_ret
      refine ⟨_, rfl, ?_, hB⟩
      rw [HFJ.out]; exact HU.out
end Go.Proofs.YtkmkmgnfolpphaaDoor
