import Derived.Test.YtedldoobmmhloaaMg17
import Derived.BigRegion
namespace Go.Proofs.Ytedldoobmmhloaa
set_option maxHeartbeats 12800000
set_option maxRecDepth 100000
open Go.RowKit
set_option linter.unusedSimpArgs false
set_option linter.unusedVariables false
def stp (ns : List Nd) (i : Nat) (st : (Nat → Bool) × List Int) : (Nat → Bool) × List Int :=
 if st.1 i then
  match ns[i - 1]? with
  | some n => ((fun j => st.1 j || decide ((j : Int) = n.a) || decide ((j : Int) = n.b) || decide ((j : Int) = n.c)), st.2 ++ [(i : Int)])
  | none => st
 else st
def dn (ns : List Nd) (id : Nat) : Nat → (Nat → Bool) × List Int
 | 0 => ((fun j => decide (j = id)), [])
 | t + 1 => stp ns (id - t) (dn ns id t)
def coneF (ns : List Nd) (id : Nat) : List Int := (dn ns id id).2.reverse
def coneL (ns : List Nd) (i : Int) : List Int := if hasB ns.length i then coneF ns i.toNat else []
theorem dn_no {ns : List Nd} {id k : Nat} (hk : k < id) (h : (dn ns id (id - (k + 1))).1 (k + 1) = false) : dn ns id (id - k) = dn ns id (id - (k + 1)) := by
 rw [show id - k = (id - (k + 1)) + 1 by omega]
 show stp ns (id - (id - (k + 1))) _ = _
 rw [show id - (id - (k + 1)) = k + 1 by omega]
 unfold stp
 rw [if_neg (by rw [h]; decide)]
theorem dn_yes {ns : List Nd} {id k : Nat} {n : Nd} (hk : k < id) (h : (dn ns id (id - (k + 1))).1 (k + 1) = true) (hn : ns[k]? = some n) :
  dn ns id (id - k) = ((fun j => (dn ns id (id - (k + 1))).1 j || decide ((j : Int) = n.a) || decide ((j : Int) = n.b) || decide ((j : Int) = n.c)), (dn ns id (id - (k + 1))).2 ++ [(k : Int) + 1]) := by
 have e : dn ns id (id - k) = stp ns (k + 1) (dn ns id (id - (k + 1))) := by
  rw [show id - k = (id - (k + 1)) + 1 by omega]
  show stp ns (id - (id - (k + 1))) _ = _
  rw [show id - (id - (k + 1)) = k + 1 by omega]
 rw [e]
 unfold stp
 rw [if_pos h, show k + 1 - 1 = k by omega, hn]
 rfl
theorem stp_len (ns : List Nd) (i : Nat) (st : (Nat → Bool) × List Int) : (stp ns i st).2.length ≤ st.2.length + 1 := by
 unfold stp
 split
 ·split
  ·simp
  ·omega
 ·omega
theorem dn_len (ns : List Nd) (id : Nat) : ∀ t, (dn ns id t).2.length ≤ t
 | 0 => Nat.le_refl _
 | t + 1 => by
  have h1 := dn_len ns id t
  have h2 := stp_len ns (id - t) (dn ns id t)
  show (stp ns (id - t) (dn ns id t)).2.length ≤ t + 1
  omega
theorem dn_pos {ns : List Nd} {id : Nat} (h0 : 0 < id) (h : id ≤ ns.length) : ∀ t, (dn ns id (t + 1)).2 ≠ []
 | 0 => by
  have hn : ns[id - 1]? = some ns[id - 1] := List.getElem?_eq_getElem (by omega)
  show (stp ns (id - 0) (dn ns id 0)).2 ≠ []
  unfold stp
  rw [if_pos (by show decide (id - 0 = id) = true; simp), show id - 0 - 1 = id - 1 by omega, hn]
  exact List.append_ne_nil_of_right_ne_nil _ (by simp)
 | t + 1 => by
  have h1 := dn_pos h0 h t
  show (stp ns (id - (t + 1)) (dn ns id (t + 1))).2 ≠ []
  unfold stp
  split
  ·split
   ·exact List.append_ne_nil_of_left_ne_nil h1 _
   ·exact h1
  ·exact h1
theorem marks3 {w wz : World} {b n : Nat} {t : TypeId} {M F : Nat → Bool} {x y z : Nat} (h : w.rowIs b t n (fun j => .bool (M j))) (hF : ∀ j, F j = (M j || decide (j = x) || decide (j = y) || decide (j = z)))
  (hz : wz.heap[b]? = (((w.setCell ⟨b, x, none⟩ (.bool true)).setCell ⟨b, y, none⟩ (.bool true)).setCell ⟨b, z, none⟩ (.bool true)).heap[b]?) : wz.rowIs b t n (fun j => .bool (F j)) := by
 refine ((((h.set x (.bool true)).set y (.bool true)).set z (.bool true)).congr (fun j _ => ?_)).of_block hz
 rw [hF j]
 by_cases h1 : j = z
 ·simp [h1]
 ·by_cases h2 : j = y
  ·simp [h2]
  ·by_cases h3 : j = x
   ·simp [h3]
   ·simp [h1, h2, h3]
def Rl (w : World) (b : Nat) (v : Value) (l : List Int) : Prop := ∃ a c, v = .slice a l.length c ∧ l.length ≤ c ∧ l.length ≤ 5000 ∧ (l = [] ∨ ∃ r, a = some ⟨r, 0, none⟩ ∧ b ≤ r ∧ Li w r 0 l)
theorem size_alloc' (w : World) (o : Obj) : (w.alloc o).heap.size = w.heap.size + 1 := by simp
theorem app_facts {w wr w1 : World} {o : Obj} {u : Value} {L : List Int} {r g ci N cap k I A B1 C1 : Nat} {n : Nd} {M : Nat → Bool} (hbl : Below w.heap.size w wr) (hws : w.heap.size + 1 ≤ wr.heap.size) (hI : Is' wr (w.heap.size + 1) u L) (hgrow : (wr.alloc o).grownBy w1 u.ownBlock)
  (hg : g < w.heap.size) (hrl : r < w.heap.size) (hc1 : w.cell? ⟨g, ci, none⟩ = some (.slice (some ⟨r, 0, none⟩) N cap)) (hc : ∀ j x, n.cs[j]? = some x → w.cell? ⟨r, k * 11 + j, none⟩ = some x) (hA : n.a = (A : Int)) (hB : n.b = (B1 : Int)) (hC : n.c = (C1 : Int))
  (hrow : wr.rowIs w.heap.size 4 I (fun j => .bool (M j))) (a1 : A < I) (a2 : B1 < I) (a3 : C1 < I) :
  (w1.cell? ⟨g, ci, none⟩ = some (.slice (some ⟨r, 0, none⟩) N cap) ∧ w1.cell? ⟨r, k * 11, none⟩ = some (.int .i64 n.op) ∧ w1.cell? ⟨r, k * 11 + 1, none⟩ = some (.int .i64 n.s) ∧ w1.cell? ⟨r, k * 11 + 2, none⟩ = some (.int .i64 (A : Int)) ∧ w1.cell? ⟨r, k * 11 + 3, none⟩ = some (.int .i64 (B1 : Int)) ∧ w1.cell? ⟨r, k * 11 + 4, none⟩ = some (.int .i64 (C1 : Int)) ∧ w1.cell? ⟨r, k * 11 + 5, none⟩ = some (.int .i64 n.p) ∧ w1.cell? ⟨r, k * 11 + 6, none⟩ = some (.int .i64 n.q) ∧ w1.cell? ⟨r, k * 11 + 7, none⟩ = some (.int .i64 n.w) ∧ w1.cell? ⟨r, k * 11 + 8, none⟩ = some (.int .u64 n.lo) ∧ w1.cell? ⟨r, k * 11 + 9, none⟩ = some (.int .u64 n.hi) ∧ w1.cell? ⟨r, k * 11 + 10, none⟩ = some (.string n.nm)) ∧
  (w1.cell? ⟨w.heap.size, A, none⟩ = some (.bool (M A)) ∧ w1.cell? ⟨w.heap.size, B1, none⟩ = some (.bool (M B1)) ∧ w1.cell? ⟨w.heap.size, C1, none⟩ = some (.bool (M C1)) ∧ w1.frozen? ⟨w.heap.size, A, none⟩ = false ∧ w1.frozen? ⟨w.heap.size, B1, none⟩ = false ∧ w1.frozen? ⟨w.heap.size, C1, none⟩ = false) ∧
  w.heap.size + 1 ≤ w1.heap.size ∧ Below w.heap.size w w1 ∧ w1.rowIs w.heap.size 4 I (fun j => .bool (M j)) := by
 have hrw : ∀ q, u.ownBlock = some q → w.heap.size + 1 ≤ q := fun q hq => (hI.lt q hq).1
 have hb1 : Below w.heap.size w w1 := low_grown hbl (by omega) hgrow (fun q hq => by have := hrw q hq; omega)
 have hsw : w.heap.size < wr.heap.size := by omega
 have hbk : w1.heap[w.heap.size]? = wr.heap[w.heap.size]? := (hgrow.block w.heap.size (by rw [size_alloc']; omega) (fun e => by have := hrw _ e.symm; omega)).trans (heap_alloc_old _ _ hsw)
 have hR : w1.rowIs w.heap.size 4 I (fun j => .bool (M j)) := hrow.of_block hbk
 have hs1 : w.heap.size + 1 ≤ w1.heap.size := by have := hgrow.size; rw [size_alloc'] at this; omega
 exact ⟨⟨bel_cell hb1 hg hc1, bel_cell hb1 hrl (hc 0 _ rfl), bel_cell hb1 hrl (hc 1 _ rfl), by rw [← hA]; exact bel_cell hb1 hrl (hc 2 _ rfl), by rw [← hB]; exact bel_cell hb1 hrl (hc 3 _ rfl), by rw [← hC]; exact bel_cell hb1 hrl (hc 4 _ rfl), bel_cell hb1 hrl (hc 5 _ rfl), bel_cell hb1 hrl (hc 6 _ rfl), bel_cell hb1 hrl (hc 7 _ rfl), bel_cell hb1 hrl (hc 8 _ rfl), bel_cell hb1 hrl (hc 9 _ rfl), bel_cell hb1 hrl (hc 10 _ rfl)⟩, ⟨hR.cell a1, hR.cell a2, hR.cell a3, hR.frozen A, hR.frozen B1, hR.frozen C1⟩, hs1, hb1, hR⟩
theorem under56 : Try.prog.underlying 22 = some (.slice 4) := by kernel_rfl
theorem info4y : (Try.prog.info? 4).map (fun i => (i.zero, i.size, i.bytes)) = some (some (.bool false), 1, 1) := by kernel_rfl
theorem info_any {t : TypeId} {z : Value} {s b : Nat} (h : (Try.prog.info? t).map (fun i => (i.zero, i.size, i.bytes)) = some (some z, s, b)) : ∃ i, Try.prog.info? t = some i ∧ i.zero = some z ∧ i.size = s ∧ i.bytes = b := by
 obtain ⟨i, hi, e⟩ := Option.map_eq_some_iff.1 h
 simp at e
 exact ⟨i, hi, e.1, e.2.1, e.2.2⟩
theorem cone_yes {w : World} {B g mi mv mo : Nat} {v : Value} {ns : List Nd} (h : Gr w B g mi mv v mo ns) {id : Nat} (h0 : 0 < id) (hid : id ≤ ns.length) :
  Calls Try.prog 41 #[.pointer (some ⟨g, 0, none⟩), .int .i64 (id : Int)] w fun e w' => ∃ u, e = .returned u ∧ Rl w' w.heap.size u (coneF ns id) ∧ Below w.heap.size w w' := by
 have hlen := h.len
 have H : Hid (Calls Try.prog 29 #[.pointer (some ⟨g, 0, none⟩), .int .i64 (id : Int)] w fun e w' => e = .returned (.bool true) ∧ w' = w) := by
  have e : hasB ns.length (id : Int) = true := by simp [hasB]; omega
  have := has_any h (id : Int)
  rw [e] at this; exact this
 have c1 := h.c1
 have hg := h.lt
 have HKD : Hid _ := h.inv.kids
 obtain ⟨r, cap, rfl, hBr, hrl, hc⟩ := row_all h.row (by omega)
 have HC : Hid _ := hc
 have HC1 : Hid _ := c1
 obtain ⟨t0, ht0, hz0, hz1, hz2⟩ := info_parts info3
 have HI0 : Hid (Try.prog.info? 3 = some t0 ∧ t0.zero = some (.int .i64 0) ∧ t0.size = 1 ∧ t0.bytes = 8) := ⟨ht0, hz0, hz1, hz2⟩
 obtain ⟨I, hI⟩ : ∃ I : Nat, I = id + 1 := ⟨_, rfl⟩
 obtain ⟨t4, h40, h41, h42, h43⟩ := info_any info4y
 have hmk : ∀ wx, (Instr.makeSlice 22 (.int .i64 ((id : Int) + 1)) (.int .i64 ((id : Int) + 1))).run Try.prog wx = .ok (.slice (some ⟨wx.heap.size, 0, none⟩) I I) (wx.alloc (.cells (madeCells #[.bool false] I) 4)) := fun wx => by
  have hx := run_make_row (P := Try.prog) 22 4 t4 (.bool false) under56 h40 h41 h42 rfl .i64 .i64 I (by rw [h43]; omega) (by omega) wx
  rw [show (I : Int) = (id : Int) + 1 by omega] at hx
  exact hx
 have hidI : (id : Int) < (I : Int) := by omega
 have HROW : Hid ((w.alloc (.cells ((madeCells #[.bool false] I).setIfInBounds id (.bool true)) 4)).rowIs w.heap.size 4 I (fun j => .bool ((dn ns id 0).1 j))) :=
  ⟨_, heap_alloc_new w _, by rw [Array.size_setIfInBounds]; exact size_madeCells _ _, fun j hj => by
   show _ = some (Value.bool (decide (j = id)))
   rw [Array.getElem?_setIfInBounds]
   by_cases e : j = id
   ·subst e; simp [size_madeCells, hj]
   ·rw [if_neg (fun x => e x.symm)]; simp [madeCells, hj, e, Nat.mod_one]⟩
 have kc : (w.alloc (.cells (madeCells #[.bool false] I) 4)).cell? ⟨w.heap.size, id, none⟩ = some (.bool false) := (World.rowIs_made w (.bool false) I 4).cell (by omega)
 have kf : (w.alloc (.cells (madeCells #[.bool false] I) 4)).frozen? ⟨w.heap.size, id, none⟩ = false := (World.rowIs_made w (.bool false) I 4).frozen id
 obtain ⟨N, hN⟩ : ∃ N, N = ns.length := ⟨_, rfl⟩
 have HNL : Hid _ := hN
 rw [← hN] at hid hlen HC1 c1
 clear h hc c1 ht0 hz0 hz1 hz2 hBr h40 h41 h42 h43 hN hI
 go_enter Try.func41, Try.ntmps41
 go_wp2_with fail
 refine Calls.mono H.out ?_
 rintro e wz ⟨rfl, hw⟩
 rw [hw]
 clear hw wz
 go_wp2_with fail
 clear hmk kc kf
 go_loopw [5, 7] (fun v i wr => ∃ k : Nat, k ≤ id ∧ i = .int .i64 (k : Int) ∧ Is' wr (w.heap.size + 1) v (dn ns id (id - k)).2 ∧ wr.rowIs w.heap.size 4 I (fun j => .bool ((dn ns id (id - k)).1 j)) ∧ w.heap.size + 1 ≤ wr.heap.size ∧ Below w.heap.size w wr) (fun v i wr => (intOf i).toNat)
 case atStart =>
  refine ⟨id, Nat.le_refl _, rfl, ?_, ?_, by simp, by go_grown⟩
  ·rw [Nat.sub_self]; exact World.ownsRow_nil _ _ _ _
  ·rw [Nat.sub_self]; exact HROW.out
 case round =>
  clear HROW H
  obtain ⟨k0, hk, rfl, hIs, hrow, hws, hbl⟩ := hrel
  by_cases hk0 : k0 = 0
  ·subst hk0
   rw [Nat.sub_zero] at hIs
   have hne : (dn ns id id).2 ≠ [] := by
    obtain ⟨t, rfl⟩ : ∃ t, id = t + 1 := ⟨id - 1, by omega⟩
    exact dn_pos h0 (by rw [← HNL.out]; exact hid) t
   have hl5 := dn_len ns id id
   have hl0 : 0 < (dn ns id id).2.length := List.length_pos_iff.2 hne
   obtain ⟨r1, cap1, C1, f1, rfl, hr1, hcap1, hrow1, hC1, hf1⟩ := hIs.row hne
   have HRV : Hid _ := rev_any (cap := cap1) rfl hrow1 hf1 hC1 (by omega) hl0
   have HLL : Hid _ := hcap1
   have HLM : Hid ((dn ns id id).2.length ≤ 5000) := by unfold Hid; omega
   obtain ⟨L, hL⟩ : ∃ L, L = (dn ns id id).2 := ⟨_, rfl⟩
   have HCF : Hid (coneF ns id = L.reverse) := by unfold Hid coneF; rw [hL]
   rw [← hL] at HRV HLL HLM
   rw [← hL]
   clear hIs hrow hrow1 hf1 hne hl5 hl0 hL
   go_wp2_with fail
   refine Calls.mono HRV.out ?_
   rintro e w2 ⟨rfl, hLi, hb2⟩
   have HLi : Hid _ := hLi
   clear hLi
   go_wp2_with fail
   go_ret
   refine ⟨.slice (some ⟨r1, 0, none⟩) L.length cap1, rfl, ⟨some ⟨r1, 0, none⟩, cap1, by rw [HCF.out, List.length_reverse], by rw [HCF.out, List.length_reverse]; exact HLL.out, by rw [HCF.out, List.length_reverse]; exact HLM.out, Or.inr ⟨r1, rfl, by omega, by rw [HCF.out]; exact HLi.out⟩⟩, hbl.trans (hb2.mono (by omega))⟩
  ·obtain ⟨k, rfl⟩ : ∃ k, k0 = k + 1 := ⟨k0 - 1, by omega⟩
   clear hk0
   obtain ⟨n, hn⟩ : ∃ n, ns[k]? = some n := ⟨_, List.getElem?_eq_getElem (by rw [← HNL.out]; omega)⟩
   have HNN : Hid _ := hn
   have cm : wr.cell? ⟨w.heap.size, k + 1, none⟩ = some (.bool ((dn ns id (id - (k + 1))).1 (k + 1))) := hrow.cell (by omega)
   rw [show ((k + 1 : Nat) : Int) = (k : Int) + 1 from rfl]
   have x1 : (0 : Int) < (k : Int) + 1 := by omega
   have x2 : (k : Int) + 1 < (I : Int) := by omega
   have x3 : wrap64 (k : Int) = (k : Int) := wrap_small (by omega)
   have x4 : (k : Int) < (N : Int) := by omega
   have hsw : w.heap.size < wr.heap.size := by omega
   by_cases hm : (dn ns id (id - (k + 1))).1 (k + 1) = true
   ·have HST : Hid _ := dn_yes (by omega) hm hn
    rw [hm] at cm
    have HLN : Hid ((dn ns id (id - (k + 1))).2.length ≤ 5000) := by unfold Hid; have := dn_len ns id (id - (k + 1)); omega
    obtain ⟨M, hM⟩ : ∃ M, M = (dn ns id (id - (k + 1))).1 := ⟨_, rfl⟩
    obtain ⟨L, hL⟩ : ∃ L, L = (dn ns id (id - (k + 1))).2 := ⟨_, rfl⟩
    rw [← hM] at HST hrow
    rw [← hL] at HST HLN hIs
    have HI : Hid _ := hIs
    have HRW : Hid _ := hrow
    have hkd := HKD.out k n hn
    obtain ⟨A, hA0⟩ : ∃ A : Nat, n.a = (A : Int) := ⟨n.a.toNat, by omega⟩
    obtain ⟨B1, hB0⟩ : ∃ B1 : Nat, n.b = (B1 : Int) := ⟨n.b.toNat, by omega⟩
    obtain ⟨C1, hC0⟩ : ∃ C1 : Nat, n.c = (C1 : Int) := ⟨n.c.toNat, by omega⟩
    have hA : Hid _ := hA0
    have hB : Hid _ := hB0
    have hC : Hid _ := hC0
    have a1 : (A : Int) < (I : Int) := by omega
    have a2 : (B1 : Int) < (I : Int) := by omega
    have a3 : (C1 : Int) < (I : Int) := by omega
    have a1' : A < I := by omega
    have a2' : B1 < I := by omega
    have a3' : C1 < I := by omega
    have HF : Hid (∀ j, (dn ns id (id - k)).1 j = (M j || decide (j = A) || decide (j = B1) || decide (j = C1))) := fun j => by
     rw [HST.out]
     show (M j || decide ((j : Int) = n.a) || decide ((j : Int) = n.b) || decide ((j : Int) = n.c)) = _
     rw [hA0, hB0, hC0]
     simp only [Int.ofNat_inj]
    have HL2 : Hid ((dn ns id (id - k)).2 = L ++ [(k : Int) + 1]) := by unfold Hid; rw [HST.out]
    clear hM hL hm hIs hrow hn hkd hA0 hB0 hC0 HST
    go_wp2_with (at_builtin; refine wpList_append_own_at _ rfl _ _ 39 rfl (w.heap.size + 1) 3 t0 (.int .i64 0) 1 8 under45 HI0.out.1 HI0.out.2.1 HI0.out.2.2.1 HI0.out.2.2.2 rfl (by decide) _ _ _ rfl (row_kept HI.out (fun _ hq => heap_alloc_old _ _ hq)) ⟨wr.heap.size, 0, none⟩ 1 1 [.int .i64 ((k : Int) + 1)] rfl rfl (cell_one_new _ _ _) (ones [(k : Int) + 1]) (by have := HLN.out; unfold maxLen; omega) (by have := HLN.out; omega) (by simp; omega) ?_; intro v1 w1 hown hgrow hnil hat; obtain ⟨⟨c1, d0, d1, d2, d3, d4, d5, d6, d7, d8, d9, d10⟩, ⟨m1, m2, m3, f1, f2, f3⟩, hs1, hb1, hR1⟩ := app_facts hbl hws HI.out hgrow hg hrl HC1.out (HC.out k n HNN.out) hA.out hB.out hC.out HRW.out a1' a2' a3'; have HRW1 : Hid _ := hR1; have hsw1 : w.heap.size < w1.heap.size := (by omega); have hrw1 : r < w1.heap.size := (by omega); have hgw1 : g < w1.heap.size := (by omega); have HOW : Hid (Is' w1 (w.heap.size + 1) v1 (dn ns id (id - k)).2) := (by unfold Hid Is'; rw [HL2.out, List.map_append, List.length_append]; exact hown); clear hown hgrow hnil hat hR1; clear cm)
    have HRR : Hid (w1.rowIs w.heap.size 4 I (fun j => .bool (M j))) := HRW1.out
    obtain ⟨q1, p1⟩ : ∃ q, (w1.setCell ⟨w.heap.size, A, none⟩ (.bool true)).cell? ⟨w.heap.size, B1, none⟩ = some q := ⟨_, ((show w1.rowIs w.heap.size 4 I (fun j => .bool (M j)) from HRR.out).set A _).cell a2'⟩
    obtain ⟨q2, p2⟩ : ∃ q, (w1.setCell ⟨w.heap.size, A, none⟩ (.bool true)).cell? ⟨w.heap.size, C1, none⟩ = some q := ⟨_, ((show w1.rowIs w.heap.size 4 I (fun j => .bool (M j)) from HRR.out).set A _).cell a3'⟩
    obtain ⟨q3, p3⟩ : ∃ q, (w1.setCell ⟨w.heap.size, B1, none⟩ (.bool true)).cell? ⟨w.heap.size, A, none⟩ = some q := ⟨_, ((show w1.rowIs w.heap.size 4 I (fun j => .bool (M j)) from HRR.out).set B1 _).cell a1'⟩
    obtain ⟨q4, p4⟩ : ∃ q, (w1.setCell ⟨w.heap.size, B1, none⟩ (.bool true)).cell? ⟨w.heap.size, C1, none⟩ = some q := ⟨_, ((show w1.rowIs w.heap.size 4 I (fun j => .bool (M j)) from HRR.out).set B1 _).cell a3'⟩
    obtain ⟨q5, p5⟩ : ∃ q, (w1.setCell ⟨w.heap.size, C1, none⟩ (.bool true)).cell? ⟨w.heap.size, A, none⟩ = some q := ⟨_, ((show w1.rowIs w.heap.size 4 I (fun j => .bool (M j)) from HRR.out).set C1 _).cell a1'⟩
    obtain ⟨q6, p6⟩ : ∃ q, (w1.setCell ⟨w.heap.size, C1, none⟩ (.bool true)).cell? ⟨w.heap.size, B1, none⟩ = some q := ⟨_, ((show w1.rowIs w.heap.size 4 I (fun j => .bool (M j)) from HRR.out).set C1 _).cell a2'⟩
    obtain ⟨q7, p7⟩ : ∃ q, ((w1.setCell ⟨w.heap.size, A, none⟩ (.bool true)).setCell ⟨w.heap.size, B1, none⟩ (.bool true)).cell? ⟨w.heap.size, C1, none⟩ = some q := ⟨_, (((show w1.rowIs w.heap.size 4 I (fun j => .bool (M j)) from HRR.out).set A _).set B1 _).cell a3'⟩
    obtain ⟨q8, p8⟩ : ∃ q, ((w1.setCell ⟨w.heap.size, A, none⟩ (.bool true)).setCell ⟨w.heap.size, C1, none⟩ (.bool true)).cell? ⟨w.heap.size, B1, none⟩ = some q := ⟨_, (((show w1.rowIs w.heap.size 4 I (fun j => .bool (M j)) from HRR.out).set A _).set C1 _).cell a2'⟩
    obtain ⟨q9, p9⟩ : ∃ q, ((w1.setCell ⟨w.heap.size, B1, none⟩ (.bool true)).setCell ⟨w.heap.size, A, none⟩ (.bool true)).cell? ⟨w.heap.size, C1, none⟩ = some q := ⟨_, (((show w1.rowIs w.heap.size 4 I (fun j => .bool (M j)) from HRR.out).set B1 _).set A _).cell a3'⟩
    obtain ⟨q10, p10⟩ : ∃ q, ((w1.setCell ⟨w.heap.size, B1, none⟩ (.bool true)).setCell ⟨w.heap.size, C1, none⟩ (.bool true)).cell? ⟨w.heap.size, A, none⟩ = some q := ⟨_, (((show w1.rowIs w.heap.size 4 I (fun j => .bool (M j)) from HRR.out).set B1 _).set C1 _).cell a1'⟩
    obtain ⟨q11, p11⟩ : ∃ q, ((w1.setCell ⟨w.heap.size, C1, none⟩ (.bool true)).setCell ⟨w.heap.size, A, none⟩ (.bool true)).cell? ⟨w.heap.size, B1, none⟩ = some q := ⟨_, (((show w1.rowIs w.heap.size 4 I (fun j => .bool (M j)) from HRR.out).set C1 _).set A _).cell a2'⟩
    obtain ⟨q12, p12⟩ : ∃ q, ((w1.setCell ⟨w.heap.size, C1, none⟩ (.bool true)).setCell ⟨w.heap.size, B1, none⟩ (.bool true)).cell? ⟨w.heap.size, A, none⟩ = some q := ⟨_, (((show w1.rowIs w.heap.size 4 I (fun j => .bool (M j)) from HRR.out).set C1 _).set B1 _).cell a1'⟩
    go_region
    all_goals
     go_wp2_with fail
     refine ⟨⟨k, by omega, by go_num, row_sets HOW.out ?_, ?_, ?_, ?_⟩, by simp [intOf]⟩
     ·intro q hq hl
      simp only [World.drew]
      refine (heap_alloc_old _ _ (by simp; exact hl)).trans ?_
      repeat rw [heap_setCell_other _ _ _ _ (by show q ≠ w.heap.size; omega)]
     ·refine marks3 (w := w1) (x := A) (y := B1) (z := C1) HRR.out (fun j => by rw [HF.out j]) ?_
      simp only [World.drew]
      exact heap_alloc_old _ _ (by simp; exact hsw1)
     ·simp; omega
     ·go_grown
   ·rw [Bool.not_eq_true] at hm
    rw [hm] at cm
    have HST : Hid _ := dn_no (by omega) hm
    have HI : Hid _ := hIs
    have HRW : Hid _ := hrow
    clear hIs hrow hm hn
    go_wp2_with fail
    exact ⟨⟨k, by omega, by go_num, by rw [HST.out]; exact HI.out, by rw [HST.out]; exact HRW.out, hws, hbl⟩, by simp [intOf]⟩
theorem cone_no {w : World} {B g mi mv mo : Nat} {v : Value} {ns : List Nd} (h : Gr w B g mi mv v mo ns) {i : Int} (hi : hasB ns.length i = false) :
  Calls Try.prog 41 #[.pointer (some ⟨g, 0, none⟩), .int .i64 i] w fun e w' => e = .returned (.slice none 0 0) ∧ Below w.heap.size w w' := by
 have H : Hid (Calls Try.prog 29 #[.pointer (some ⟨g, 0, none⟩), .int .i64 i] w fun e w' => e = .returned (.bool false) ∧ w' = w) := by
  have := has_any h i
  rw [hi] at this; exact this
 clear h hi
 go_enter Try.func41, Try.ntmps41
 go_wp2_with fail
 refine Calls.mono H.out ?_
 rintro e wz ⟨rfl, hw⟩
 rw [hw]
 clear hw wz
 go_wp2_with fail
 go_ret
 exact ⟨rfl, Below.refl _ _⟩
theorem cone_any {w : World} {B g mi mv mo : Nat} {v : Value} {ns : List Nd} (h : Gr w B g mi mv v mo ns) (i : Int) :
  Calls Try.prog 41 #[.pointer (some ⟨g, 0, none⟩), .int .i64 i] w fun e w' => ∃ u, e = .returned u ∧ Rl w' w.heap.size u (coneL ns i) ∧ Below w.heap.size w w' := by
 unfold coneL
 cases hb : hasB ns.length i
 ·refine (cone_no h hb).mono ?_
  rintro e w' ⟨rfl, hb⟩
  exact ⟨_, rfl, ⟨none, 0, rfl, Nat.le_refl _, by simp, Or.inl rfl⟩, hb⟩
 ·have h' : 1 ≤ i ∧ i ≤ (ns.length : Int) := by simpa [hasB] using hb
  have e : (i.toNat : Int) = i := by omega
  have hc := cone_yes h (id := i.toNat) (by omega) (by omega)
  rw [e] at hc
  exact hc
theorem Is'.rl {w : World} {base : Nat} {v : Value} {l : List Int} (h : Is' w base v l) (h5 : l.length ≤ 5000) : Rl w base v l := by
 by_cases hl : l = []
 ·subst hl
  rcases h.2 with ⟨rfl, hn⟩ | ⟨r, cap, cur, rfl, hb, hg, hc, _, hs, ht⟩
  ·exact ⟨none, 0, rfl, Nat.le_refl _, by simp, Or.inl rfl⟩
  ·exact ⟨_, cap, rfl, by simp, by simp, Or.inl rfl⟩
 ·obtain ⟨r, cap, rfl, hb, hc, hLi⟩ := h.li hl
  exact ⟨_, cap, rfl, hc, h5, Or.inr ⟨r, rfl, hb, hLi⟩⟩
end Go.Proofs.Ytedldoobmmhloaa
