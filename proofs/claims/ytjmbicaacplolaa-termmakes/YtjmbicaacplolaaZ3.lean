/- Contracts (the document's graph): what a term is made of. -/
import Derived.Test.YtjmbicaacplolaaZ2
import Derived.BigRegion
namespace Go.Proofs.Ytjmbicaacplolaa
open Go.RowKit
set_option linter.unusedSimpArgs false
set_option linter.unusedVariables false

set_option maxRecDepth 20000 in
set_option maxHeartbeats 12800000 in
theorem rcone_yes {w : World} {B g mo : Nat} {v : Value} {ns : List Nd} (h : Rg w B g v mo ns) (hv : Inv ns) {id : Nat} (h0 : 0 < id) (hid : id ≤ ns.length) :
    Calls Try.prog 19 #[.pointer (some ⟨g, 0, none⟩), .int .i64 (id : Int)] w fun e w' => ∃ u, e = .returned u ∧ Rl w' w.heap.size u (coneF ns id) ∧ Below w.heap.size w w' := by
  have hlen := h.len
  have c1 := h.c0
  have hg := h.lt
  have HKD : Hid _ := hv.kids
  obtain ⟨r, cap, rfl, hBr, hrl, hc⟩ := row_all h.row (by omega)
  have HC : Hid _ := hc
  have HC1 : Hid _ := c1
  obtain ⟨t0, ht0, hz0, hz1, hz2⟩ := info_parts info3
  have HI0 : Hid (Try.prog.info? 3 = some t0 ∧ t0.zero = some (.int .i64 0) ∧ t0.size = 1 ∧ t0.bytes = 8) := ⟨ht0, hz0, hz1, hz2⟩
  obtain ⟨I, hI⟩ : ∃ I : Nat, I = id + 1 := ⟨_, rfl⟩
  obtain ⟨t4, h40, h41, h42, h43⟩ := info_any info4
  have hmk : ∀ wx, (Instr.makeSlice 56 (.int .i64 ((id : Int) + 1)) (.int .i64 ((id : Int) + 1))).run Try.prog wx = .ok (.slice (some ⟨wx.heap.size, 0, none⟩) I I) (wx.alloc (.cells (madeCells #[.bool false] I) 4)) := fun wx => by
    have hx := run_make_row (P := Try.prog) 56 4 t4 (.bool false) under56 h40 h41 h42 rfl .i64 .i64 I (by rw [h43]; omega) (by omega) wx
    rw [show (I : Int) = (id : Int) + 1 by omega] at hx
    exact hx
  have hidI : (id : Int) < (I : Int) := by omega
  have HROW : Hid ((w.alloc (.cells ((madeCells #[.bool false] I).setIfInBounds id (.bool true)) 4)).rowIs w.heap.size 4 I (fun j => .bool ((dn ns id 0).1 j))) :=
    ⟨_, heap_alloc_new w _, by rw [Array.size_setIfInBounds]; exact size_madeCells _ _, fun j hj => by
      show _ = some (Value.bool (decide (j = id)))
      rw [Array.getElem?_setIfInBounds]
      by_cases e : j = id
      · subst e; simp [size_madeCells, hj]
      · rw [if_neg (fun x => e x.symm)]; simp [madeCells, hj, e, Nat.mod_one]⟩
  have kc : (w.alloc (.cells (madeCells #[.bool false] I) 4)).cell? ⟨w.heap.size, id, none⟩ = some (.bool false) := (World.rowIs_made w (.bool false) I 4).cell (by omega)
  have kf : (w.alloc (.cells (madeCells #[.bool false] I) 4)).frozen? ⟨w.heap.size, id, none⟩ = false := (World.rowIs_made w (.bool false) I 4).frozen id
  obtain ⟨N, hN⟩ : ∃ N, N = ns.length := ⟨_, rfl⟩
  have HNL : Hid _ := hN
  rw [← hN] at hid hlen HC1 c1
  clear h hc c1 ht0 hz0 hz1 hz2 hBr h40 h41 h42 h43 hN hI
  go_enter Try.func19, Try.ntmps19
  have g1 : ¬ (id : Int) < 1 := by omega
  have g2 : ¬ (N : Int) < (id : Int) := by omega
  have c1 := HC1.out
  go_wp2_with fail
  clear hmk kc kf c1 g1 g2
  go_loopw [6, 7] (fun v i wr => ∃ k : Nat, k ≤ id ∧ i = .int .i64 (k : Int) ∧ Is' wr (w.heap.size + 1) v (dn ns id (id - k)).2 ∧ wr.rowIs w.heap.size 4 I (fun j => .bool ((dn ns id (id - k)).1 j)) ∧ w.heap.size + 1 ≤ wr.heap.size ∧ Below w.heap.size w wr) (fun v i wr => (intOf i).toNat)
  case atStart =>
    refine ⟨id, Nat.le_refl _, rfl, ?_, ?_, by simp, by go_grown⟩
    · rw [Nat.sub_self]; exact World.ownsRow_nil _ _ _ _
    · rw [Nat.sub_self]; exact HROW.out
  case round =>
    clear HROW
    obtain ⟨k0, hk, rfl, hIs, hrow, hws, hbl⟩ := hrel
    by_cases hk0 : k0 = 0
    · subst hk0
      rw [Nat.sub_zero] at hIs
      have hne : (dn ns id id).2 ≠ [] := by
        obtain ⟨t, rfl⟩ : ∃ t, id = t + 1 := ⟨id - 1, by omega⟩
        exact dn_pos h0 (by rw [← HNL.out]; exact hid) t
      have hl5 := dn_len ns id id
      have hl0 : 0 < (dn ns id id).2.length := List.length_pos_iff.2 hne
      obtain ⟨L, hL⟩ : ∃ L, L = (dn ns id id).2 := ⟨_, rfl⟩
      have HCF : Hid (coneF ns id = L.reverse) := by unfold Hid coneF; rw [hL]
      rw [← hL] at hIs hne hl5 hl0
      obtain ⟨r1, cap1, rfl, hr1, hcap1, hLi⟩ := hIs.li hne
      have HLi : Hid _ := hLi
      have hr1l : r1 < wr.heap.size := World.block_lt_of_cell? _ _ (hLi 0 hl0)
      obtain ⟨m, hm⟩ : ∃ m, m = L.length := ⟨_, rfl⟩
      have HM : Hid _ := hm
      rw [← hm] at hl5 hl0 ⊢
      clear hIs hrow hne hL hLi hcap1 hm HKD
      have e1 : ((0 : Nat) : Int) = 0 := rfl
      rw [e1]
      clear e1
      rename World => wE
      go_wp2_with fail
      go_loopw [9, 10] (fun v i wx => ∃ q J : Nat, q + J = m ∧ i = .int .i64 ((J : Int) - 1) ∧ Is' wx wE.heap.size v (L.reverse.take q) ∧ Below wE.heap.size wE wx) (fun v i wx => (intOf i + 1).toNat)
      case atStart => exact ⟨0, m, by omega, rfl, World.ownsRow_nil _ _ _ _, Below.refl _ _⟩
      case round =>
        obtain ⟨q, J, hqJ, rfl, hI2, hb2⟩ := hrel
        have HI2 : Hid _ := hI2
        clear hI2
        cases J with
        | zero =>
          have HF : Hid (Is' wr wE.heap.size u9 (coneF ns id)) := by
            have h := HI2.out
            rw [show q = L.reverse.length by rw [List.length_reverse, ← HM.out]; omega, List.take_length] at h
            unfold Hid
            rw [HCF.out]; exact h
          have e1 : ((0 : Nat) : Int) - 1 = -1 := rfl
          rw [e1]
          clear e1
          go_wp2_with fail
          go_ret
          have hlen5 : (coneF ns id).length ≤ 5000 := by rw [HCF.out, List.length_reverse, ← HM.out]; omega
          obtain ⟨aa, cc, hx1, hx2, hx3, hx4⟩ := Is'.rl HF.out hlen5
          refine ⟨_, rfl, ⟨aa, cc, hx1, hx2, hx3, ?_⟩, hbl.trans (hb2.mono hbl.size)⟩
          rcases hx4 with h | ⟨r, h1, h2, h3⟩
          · exact Or.inl h
          · exact Or.inr ⟨r, h1, Nat.le_trans hbl.size h2, h3⟩
        | succ J =>
          have hJm : J < m := by omega
          have cJ : wr.cell? ⟨r1, J, none⟩ = some (.int .i64 (L.getD J 0)) := by
            have h := HLi.out J (by rw [← HM.out]; exact hJm)
            rw [Nat.zero_add] at h
            exact bel_cell hb2 hr1l h
          obtain ⟨y, hy⟩ : ∃ y, y = L.getD J 0 := ⟨_, rfl⟩
          rw [← hy] at cJ
          have HS : Hid (L.reverse.take (q + 1) = L.reverse.take q ++ [y]) := by
            unfold Hid
            have hq : q < L.reverse.length := by rw [List.length_reverse, ← HM.out]; omega
            rw [List.take_add_one, List.getElem?_eq_getElem hq, hy, List.getD_eq_getElem?_getD]
            rw [List.getElem_reverse, List.getElem?_eq_getElem (by rw [← HM.out]; exact hJm)]
            have : L.length - 1 - q = J := by rw [← HM.out]; omega
            simp only [this]
            rfl
          have HLN : Hid ((L.reverse.take q).length ≤ 5000) := by unfold Hid; rw [List.length_take, List.length_reverse, ← HM.out]; omega
          rw [show ((J + 1 : Nat) : Int) - 1 = (J : Int) by omega]
          have x1 : (0 : Int) ≤ (J : Int) := by omega
          have x2 : (J : Int) < (m : Int) := by omega
          clear hy
          go_wp2_with (at_builtin; refine wpList_append_own_at _ rfl _ _ 45 rfl wE.heap.size 3 t0 (.int .i64 0) 1 8 under45 HI0.out.1 HI0.out.2.1 HI0.out.2.2.1 HI0.out.2.2.2 rfl (by decide) _ _ _ rfl (row_kept HI2.out (fun _ hq => heap_alloc_old _ _ hq)) ⟨wr.heap.size, 0, none⟩ 1 1 [.int .i64 y] rfl rfl (cell_one_new _ _ _) (ones [y]) (by have := HLN.out; unfold maxLen; omega) (by have := HLN.out; omega) (by have := hb2.size; rw [size_alloc']; omega) ?_; intro v1 w1 hown hgrow hnil hat)
          have hb3 : Below wE.heap.size wE w1 := low_grown hb2 hb2.size hgrow (fun q hq => (HI2.out.lt q hq).1)
          have HI3 : Hid (Is' w1 wE.heap.size v1 (L.reverse.take (q + 1))) := by
            unfold Hid Is'
            rw [HS.out, List.map_append, List.length_append]
            exact hown
          clear hown hgrow hnil hat HI2
          go_wp2_with fail
          exact ⟨⟨q + 1, J, by omega, by go_num, HI3.out, hb3⟩, by simp [intOf]⟩
    · obtain ⟨k, rfl⟩ : ∃ k, k0 = k + 1 := ⟨k0 - 1, by omega⟩
      clear hk0
      obtain ⟨n, hn⟩ : ∃ n, ns[k]? = some n := ⟨_, List.getElem?_eq_getElem (by rw [← HNL.out]; omega)⟩
      have HNN : Hid _ := hn
      have cm : wr.cell? ⟨w.heap.size, k + 1, none⟩ = some (.bool ((dn ns id (id - (k + 1))).1 (k + 1))) := hrow.cell (by omega)
      rw [show ((k + 1 : Nat) : Int) = (k : Int) + 1 from rfl]
      have x1 : (0 : Int) < (k : Int) + 1 := by omega
      have x2 : (k : Int) + 1 < (I : Int) := by omega
      have x3 : wrap64 (k : Int) = (k : Int) := wrap_small (by omega)
      have x4 : (k : Int) < (N : Int) := by omega
      have hsw : w.heap.size < wr.heap.size := by omega
      by_cases hm : (dn ns id (id - (k + 1))).1 (k + 1) = true
      · have HST : Hid _ := dn_yes (by omega) hm hn
        rw [hm] at cm
        have HLN : Hid ((dn ns id (id - (k + 1))).2.length ≤ 5000) := by unfold Hid; have := dn_len ns id (id - (k + 1)); omega
        obtain ⟨M, hM⟩ : ∃ M, M = (dn ns id (id - (k + 1))).1 := ⟨_, rfl⟩
        obtain ⟨L, hL⟩ : ∃ L, L = (dn ns id (id - (k + 1))).2 := ⟨_, rfl⟩
        rw [← hM] at HST hrow
        rw [← hL] at HST HLN hIs
        have HI : Hid _ := hIs
        have HRW : Hid _ := hrow
        have hkd := HKD.out k n hn
        obtain ⟨A, hA0⟩ : ∃ A : Nat, n.a = (A : Int) := ⟨n.a.toNat, by omega⟩
        obtain ⟨B1, hB0⟩ : ∃ B1 : Nat, n.b = (B1 : Int) := ⟨n.b.toNat, by omega⟩
        obtain ⟨C1, hC0⟩ : ∃ C1 : Nat, n.c = (C1 : Int) := ⟨n.c.toNat, by omega⟩
        have hA : Hid _ := hA0
        have hB : Hid _ := hB0
        have hC : Hid _ := hC0
        have a1 : (A : Int) < (I : Int) := by omega
        have a2 : (B1 : Int) < (I : Int) := by omega
        have a3 : (C1 : Int) < (I : Int) := by omega
        have a1' : A < I := by omega
        have a2' : B1 < I := by omega
        have a3' : C1 < I := by omega
        have HF : Hid (∀ j, (dn ns id (id - k)).1 j = (M j || decide (j = A) || decide (j = B1) || decide (j = C1))) := fun j => by
          rw [HST.out]
          show (M j || decide ((j : Int) = n.a) || decide ((j : Int) = n.b) || decide ((j : Int) = n.c)) = _
          rw [hA0, hB0, hC0]
          simp only [Int.ofNat_inj]
        have HL2 : Hid ((dn ns id (id - k)).2 = L ++ [(k : Int) + 1]) := by unfold Hid; rw [HST.out]
        clear hM hL hm hIs hrow hn hkd hA0 hB0 hC0 HST
        go_wp2_with (at_builtin; refine wpList_append_own_at _ rfl _ _ 45 rfl (w.heap.size + 1) 3 t0 (.int .i64 0) 1 8 under45 HI0.out.1 HI0.out.2.1 HI0.out.2.2.1 HI0.out.2.2.2 rfl (by decide) _ _ _ rfl (row_kept HI.out (fun _ hq => heap_alloc_old _ _ hq)) ⟨wr.heap.size, 0, none⟩ 1 1 [.int .i64 ((k : Int) + 1)] rfl rfl (cell_one_new _ _ _) (ones [(k : Int) + 1]) (by have := HLN.out; unfold maxLen; omega) (by have := HLN.out; omega) (by simp; omega) ?_; intro v1 w1 hown hgrow hnil hat; obtain ⟨⟨c1, d0, d1, d2, d3, d4, d5, d6, d7, d8, d9, d10⟩, ⟨m1, m2, m3, f1, f2, f3⟩, hs1, hb1, hR1⟩ := app_facts hbl hws HI.out hgrow hg hrl HC1.out (HC.out k n HNN.out) hA.out hB.out hC.out HRW.out a1' a2' a3'; have HRW1 : Hid _ := hR1; have hsw1 : w.heap.size < w1.heap.size := (by omega); have hrw1 : r < w1.heap.size := (by omega); have hgw1 : g < w1.heap.size := (by omega); have HOW : Hid (Is' w1 (w.heap.size + 1) v1 (dn ns id (id - k)).2) := (by unfold Hid Is'; rw [HL2.out, List.map_append, List.length_append]; exact hown); clear hown hgrow hnil hat hR1; clear cm)
        have HRR : Hid (w1.rowIs w.heap.size 4 I (fun j => .bool (M j))) := HRW1.out
        obtain ⟨q1, p1⟩ : ∃ q, (w1.setCell ⟨w.heap.size, A, none⟩ (.bool true)).cell? ⟨w.heap.size, B1, none⟩ = some q := ⟨_, ((show w1.rowIs w.heap.size 4 I (fun j => .bool (M j)) from HRR.out).set A _).cell a2'⟩
        obtain ⟨q2, p2⟩ : ∃ q, (w1.setCell ⟨w.heap.size, A, none⟩ (.bool true)).cell? ⟨w.heap.size, C1, none⟩ = some q := ⟨_, ((show w1.rowIs w.heap.size 4 I (fun j => .bool (M j)) from HRR.out).set A _).cell a3'⟩
        obtain ⟨q3, p3⟩ : ∃ q, (w1.setCell ⟨w.heap.size, B1, none⟩ (.bool true)).cell? ⟨w.heap.size, A, none⟩ = some q := ⟨_, ((show w1.rowIs w.heap.size 4 I (fun j => .bool (M j)) from HRR.out).set B1 _).cell a1'⟩
        obtain ⟨q4, p4⟩ : ∃ q, (w1.setCell ⟨w.heap.size, B1, none⟩ (.bool true)).cell? ⟨w.heap.size, C1, none⟩ = some q := ⟨_, ((show w1.rowIs w.heap.size 4 I (fun j => .bool (M j)) from HRR.out).set B1 _).cell a3'⟩
        obtain ⟨q5, p5⟩ : ∃ q, (w1.setCell ⟨w.heap.size, C1, none⟩ (.bool true)).cell? ⟨w.heap.size, A, none⟩ = some q := ⟨_, ((show w1.rowIs w.heap.size 4 I (fun j => .bool (M j)) from HRR.out).set C1 _).cell a1'⟩
        obtain ⟨q6, p6⟩ : ∃ q, (w1.setCell ⟨w.heap.size, C1, none⟩ (.bool true)).cell? ⟨w.heap.size, B1, none⟩ = some q := ⟨_, ((show w1.rowIs w.heap.size 4 I (fun j => .bool (M j)) from HRR.out).set C1 _).cell a2'⟩
        obtain ⟨q7, p7⟩ : ∃ q, ((w1.setCell ⟨w.heap.size, A, none⟩ (.bool true)).setCell ⟨w.heap.size, B1, none⟩ (.bool true)).cell? ⟨w.heap.size, C1, none⟩ = some q := ⟨_, (((show w1.rowIs w.heap.size 4 I (fun j => .bool (M j)) from HRR.out).set A _).set B1 _).cell a3'⟩
        obtain ⟨q8, p8⟩ : ∃ q, ((w1.setCell ⟨w.heap.size, A, none⟩ (.bool true)).setCell ⟨w.heap.size, C1, none⟩ (.bool true)).cell? ⟨w.heap.size, B1, none⟩ = some q := ⟨_, (((show w1.rowIs w.heap.size 4 I (fun j => .bool (M j)) from HRR.out).set A _).set C1 _).cell a2'⟩
        obtain ⟨q9, p9⟩ : ∃ q, ((w1.setCell ⟨w.heap.size, B1, none⟩ (.bool true)).setCell ⟨w.heap.size, A, none⟩ (.bool true)).cell? ⟨w.heap.size, C1, none⟩ = some q := ⟨_, (((show w1.rowIs w.heap.size 4 I (fun j => .bool (M j)) from HRR.out).set B1 _).set A _).cell a3'⟩
        obtain ⟨q10, p10⟩ : ∃ q, ((w1.setCell ⟨w.heap.size, B1, none⟩ (.bool true)).setCell ⟨w.heap.size, C1, none⟩ (.bool true)).cell? ⟨w.heap.size, A, none⟩ = some q := ⟨_, (((show w1.rowIs w.heap.size 4 I (fun j => .bool (M j)) from HRR.out).set B1 _).set C1 _).cell a1'⟩
        obtain ⟨q11, p11⟩ : ∃ q, ((w1.setCell ⟨w.heap.size, C1, none⟩ (.bool true)).setCell ⟨w.heap.size, A, none⟩ (.bool true)).cell? ⟨w.heap.size, B1, none⟩ = some q := ⟨_, (((show w1.rowIs w.heap.size 4 I (fun j => .bool (M j)) from HRR.out).set C1 _).set A _).cell a2'⟩
        obtain ⟨q12, p12⟩ : ∃ q, ((w1.setCell ⟨w.heap.size, C1, none⟩ (.bool true)).setCell ⟨w.heap.size, B1, none⟩ (.bool true)).cell? ⟨w.heap.size, A, none⟩ = some q := ⟨_, (((show w1.rowIs w.heap.size 4 I (fun j => .bool (M j)) from HRR.out).set C1 _).set B1 _).cell a1'⟩
        go_region
        all_goals
          go_wp2_with fail
          refine ⟨⟨k, by omega, by go_num, row_sets HOW.out ?_, ?_, ?_, ?_⟩, by simp [intOf]⟩
          · intro q hq hl
            simp only [World.drew]
            refine (heap_alloc_old _ _ (by simp; exact hl)).trans ?_
            repeat rw [heap_setCell_other _ _ _ _ (by show q ≠ w.heap.size; omega)]
          · refine marks3 (w := w1) (x := A) (y := B1) (z := C1) HRR.out (fun j => by rw [HF.out j]) ?_
            simp only [World.drew]
            exact heap_alloc_old _ _ (by simp; exact hsw1)
          · simp; omega
          · go_grown
      · rw [Bool.not_eq_true] at hm
        rw [hm] at cm
        have HST : Hid _ := dn_no (by omega) hm
        have HI : Hid _ := hIs
        have HRW : Hid _ := hrow
        clear hIs hrow hm hn
        go_wp2_with fail
        exact ⟨⟨k, by omega, by go_num, by rw [HST.out]; exact HI.out, by rw [HST.out]; exact HRW.out, hws, hbl⟩, by simp [intOf]⟩

set_option maxHeartbeats 1600000 in
theorem rcone_no {w : World} {B g mo : Nat} {v : Value} {ns : List Nd} (h : Rg w B g v mo ns) {i : Int} (hi : hasB ns.length i = false) :
    Calls Try.prog 19 #[.pointer (some ⟨g, 0, none⟩), .int .i64 i] w fun e w' => e = .returned (.slice none 0 0) ∧ Below w.heap.size w w' := by
  have c0 := h.c0
  obtain ⟨ad, cap, rfl⟩ := h.sl
  have hx : i < 1 ∨ (¬ i < 1 ∧ (ns.length : Int) < i) := by
    by_cases h1 : i < 1
    · exact Or.inl h1
    · right
      refine ⟨h1, ?_⟩
      apply Classical.byContradiction
      intro h2
      have : hasB ns.length i = true := by simp [hasB]; omega
      rw [this] at hi; cases hi
  obtain ⟨N, hN⟩ : ∃ N, N = ns.length := ⟨_, rfl⟩
  rw [← hN] at c0 hx
  clear hN h hi
  rcases hx with h1 | ⟨h1, h2⟩
  all_goals
    go_enter Try.func19, Try.ntmps19
    go_wp2_with fail
    go_ret
    exact ⟨rfl, Below.refl _ _⟩
theorem rcone_any {w : World} {B g mo : Nat} {v : Value} {ns : List Nd} (h : Rg w B g v mo ns) (hv : Inv ns) (i : Int) :
    Calls Try.prog 19 #[.pointer (some ⟨g, 0, none⟩), .int .i64 i] w fun e w' => ∃ u, e = .returned u ∧ Rl w' w.heap.size u (coneL ns i) ∧ Below w.heap.size w w' := by
  unfold coneL
  cases hb : hasB ns.length i
  · refine (rcone_no h hb).mono ?_
    rintro e w' ⟨rfl, hb⟩
    exact ⟨_, rfl, ⟨none, 0, rfl, Nat.le_refl _, by simp, Or.inl rfl⟩, hb⟩
  · have h' : 1 ≤ i ∧ i ≤ (ns.length : Int) := by simpa [hasB] using hb
    have e : (i.toNat : Int) = i := by omega
    have hc := rcone_yes h hv (id := i.toNat) (by omega) (by omega)
    rw [e] at hc
    exact hc
end Go.Proofs.Ytjmbicaacplolaa
