/- Contracts (aig): what a literal is made of. -/
import Derived.Test.YtdmochghcmeebaaAG11
namespace Go.Proofs.Ytdmochghcmeebaa
open Go.RowKit
set_option linter.unusedSimpArgs false
set_option linter.unusedVariables false

/-- One node on the way down: the marks, and the list. -/
def stp (ks : List Kd) (i : Nat) (st : (Nat → Bool) × List Int) : (Nat → Bool) × List Int :=
  if st.1 i then ((fun j => st.1 j || decide (j = (ks.getD i (0, 0)).1 / 2) || decide (j = (ks.getD i (0, 0)).2 / 2)), st.2 ++ [(i : Int)]) else st
/-- Behind t nodes. -/
def dn (ks : List Kd) (id : Nat) : Nat → (Nat → Bool) × List Int
  | 0 => ((fun j => decide (j = id)), [])
  | t + 1 => stp ks (id - t) (dn ks id t)
/-- What a literal of node id is made of. -/
def coneF (ks : List Kd) (id : Nat) : List Int := (dn ks id id).2.reverse
def coneL (ks : List Kd) (l : Int) : List Int := if litB ks.length l then coneF ks (l.toNat / 2) else []
theorem dn_no {ks : List Kd} {id k : Nat} (hk : k < id) (h : (dn ks id (id - (k + 1))).1 (k + 1) = false) : dn ks id (id - k) = dn ks id (id - (k + 1)) := by
  rw [show id - k = (id - (k + 1)) + 1 by omega]
  show stp ks (id - (id - (k + 1))) _ = _
  rw [show id - (id - (k + 1)) = k + 1 by omega]
  unfold stp
  rw [if_neg (by rw [h]; decide)]
theorem dn_yes {ks : List Kd} {id k : Nat} {n : Kd} (hk : k < id) (h : (dn ks id (id - (k + 1))).1 (k + 1) = true) (hn : ks[k + 1]? = some n) :
    dn ks id (id - k) = ((fun j => (dn ks id (id - (k + 1))).1 j || decide (j = n.1 / 2) || decide (j = n.2 / 2)), (dn ks id (id - (k + 1))).2 ++ [(k : Int) + 1]) := by
  have e : dn ks id (id - k) = stp ks (k + 1) (dn ks id (id - (k + 1))) := by
    rw [show id - k = (id - (k + 1)) + 1 by omega]
    show stp ks (id - (id - (k + 1))) _ = _
    rw [show id - (id - (k + 1)) = k + 1 by omega]
  rw [e]
  unfold stp
  rw [if_pos h, List.getD_eq_getElem?_getD, hn]
  rfl
theorem stp_len (ks : List Kd) (i : Nat) (st : (Nat → Bool) × List Int) : (stp ks i st).2.length ≤ st.2.length + 1 := by
  unfold stp
  split
  · simp
  · omega
theorem dn_len (ks : List Kd) (id : Nat) : ∀ t, (dn ks id t).2.length ≤ t
  | 0 => Nat.le_refl _
  | t + 1 => by
    have h1 := dn_len ks id t
    have h2 := stp_len ks (id - t) (dn ks id t)
    show (stp ks (id - t) (dn ks id t)).2.length ≤ t + 1
    omega
theorem dn_pos {ks : List Kd} {id : Nat} : ∀ t, (dn ks id (t + 1)).2 ≠ []
  | 0 => by
    show (stp ks (id - 0) (dn ks id 0)).2 ≠ []
    unfold stp
    rw [if_pos (by show decide (id - 0 = id) = true; simp)]
    exact List.append_ne_nil_of_right_ne_nil _ (by simp)
  | t + 1 => by
    have h1 := dn_pos (ks := ks) (id := id) t
    show (stp ks (id - (t + 1)) (dn ks id (t + 1))).2 ≠ []
    unfold stp
    split
    · exact List.append_ne_nil_of_left_ne_nil h1 _
    · exact h1
theorem marks2 {w wz : World} {b n : Nat} {t : TypeId} {M F : Nat → Bool} {x y : Nat} (h : w.rowIs b t n (fun j => .bool (M j))) (hF : ∀ j, F j = (M j || decide (j = x) || decide (j = y)))
    (hz : wz.heap[b]? = ((w.setCell ⟨b, x, none⟩ (.bool true)).setCell ⟨b, y, none⟩ (.bool true)).heap[b]?) : wz.rowIs b t n (fun j => .bool (F j)) := by
  refine (((h.set x (.bool true)).set y (.bool true)).congr (fun j _ => ?_)).of_block hz
  rw [hF j]
  by_cases h2 : j = y
  · simp [h2]
  · by_cases h3 : j = x
    · simp [h3]
    · simp [h2, h3]
theorem app_facts {w wr w1 : World} {o : Obj} {u : Value} {L : List Int} {r g N cap k I A B1 : Nat} {k1 k2 : Int} {M : Nat → Bool} (hbl : Below w.heap.size w wr) (hws : w.heap.size + 1 ≤ wr.heap.size) (hI : Is' wr (w.heap.size + 1) u L) (hgrow : (wr.alloc o).grownBy w1 u.ownBlock)
    (hg : g < w.heap.size) (hrl : r < w.heap.size) (hc1 : w.cell? ⟨g, 1, none⟩ = some (.slice (some ⟨r, 0, none⟩) N cap)) (hca : w.cell? ⟨r, k * 2, none⟩ = some (.int .i64 k1)) (hcb : w.cell? ⟨r, k * 2 + 1, none⟩ = some (.int .i64 k2))
    (hrow : wr.rowIs w.heap.size 4 I (fun j => .bool (M j))) (a1 : A < I) (a2 : B1 < I) :
    (w1.cell? ⟨g, 1, none⟩ = some (.slice (some ⟨r, 0, none⟩) N cap) ∧ w1.cell? ⟨r, k * 2, none⟩ = some (.int .i64 k1) ∧ w1.cell? ⟨r, k * 2 + 1, none⟩ = some (.int .i64 k2)) ∧
    (w1.cell? ⟨w.heap.size, A, none⟩ = some (.bool (M A)) ∧ w1.cell? ⟨w.heap.size, B1, none⟩ = some (.bool (M B1)) ∧ w1.frozen? ⟨w.heap.size, A, none⟩ = false ∧ w1.frozen? ⟨w.heap.size, B1, none⟩ = false) ∧
    w.heap.size + 1 ≤ w1.heap.size ∧ Below w.heap.size w w1 ∧ w1.rowIs w.heap.size 4 I (fun j => .bool (M j)) := by
  have hrw : ∀ q, u.ownBlock = some q → w.heap.size + 1 ≤ q := fun q hq => (World.ownsRow.lt hI q hq).1
  have hb1 : Below w.heap.size w w1 := low_grown hbl (by omega) hgrow (fun q hq => by have := hrw q hq; omega)
  have hsw : w.heap.size < wr.heap.size := by omega
  have hbk : w1.heap[w.heap.size]? = wr.heap[w.heap.size]? := (hgrow.block w.heap.size (by rw [size_alloc']; omega) (fun e => by have := hrw _ e.symm; omega)).trans (heap_alloc_old _ _ hsw)
  have hR : w1.rowIs w.heap.size 4 I (fun j => .bool (M j)) := hrow.of_block hbk
  have hs1 : w.heap.size + 1 ≤ w1.heap.size := by have := hgrow.size; rw [size_alloc'] at this; omega
  exact ⟨⟨bel_cell hb1 hg hc1, bel_cell hb1 hrl hca, bel_cell hb1 hrl hcb⟩, ⟨hR.cell a1, hR.cell a2, hR.frozen A, hR.frozen B1⟩, hs1, hb1, hR⟩

/-- How far the two marks have come. -/
structure MS (w0 : World) (b I A B1 : Nat) (M : Nat → Bool) (g : Nat → Nat) (L : Nat → Bool) (x : World) : Prop where
  sz : x.heap.size = w0.heap.size
  os : x.os = w0.os
  tape : x.tape = w0.tape
  output : x.output = w0.output
  kp : ∀ q, q ≠ b → x.heap[q]? = w0.heap[q]?
  row : x.rowIs b 4 I (fun j => .bool (M j || (L 21 && decide (j = A)) || (L 23 && decide (j = B1))))
section
variable {w0 : World} {b I A B1 : Nat} {M : Nat → Bool} {g : Nat → Nat} {L : Nat → Bool} {x : World} {i : Nat}
theorem MS.start (h : w0.rowIs b 4 I (fun j => .bool (M j))) : MS w0 b I A B1 M g (fun _ => false) w0.drew := ⟨rfl, rfl, rfl, rfl, fun _ _ => rfl, World.rowIs.congr (w := w0.drew) h fun j _ => by simp⟩
theorem MS.go (h : MS w0 b I A B1 M g L x) (hi : (i != 21 && i != 23) = true) : MS w0 b I A B1 M g (updB L i) x := by
  simp only [Bool.and_eq_true, bne_iff_ne, ne_eq] at hi
  refine ⟨h.sz, h.os, h.tape, h.output, h.kp, ?_⟩
  rw [updB_ne (L := L) (i := i) (k := 21) (by omega), updB_ne (L := L) (i := i) (k := 23) (by omega)]
  exact h.row
theorem MS.s21 (h : MS w0 b I A B1 M g L x) (hL : L 21 = false) : MS w0 b I A B1 M g (updB L 21) (x.setCell ⟨b, A, none⟩ (.bool true)) := by
  refine ⟨by rw [World.size_setCell]; exact h.sz, h.os, h.tape, h.output, fun q hq => (heap_setCell_other _ _ _ _ hq).trans (h.kp q hq), ?_⟩
  rw [updB_eq, updB_ne (L := L) (i := 21) (k := 23) (by decide)]
  refine (h.row.set A (.bool true)).congr fun j _ => ?_
  rw [hL]
  by_cases e : j = A <;> simp [e]
theorem MS.s23 (h : MS w0 b I A B1 M g L x) (hL : L 23 = false) : MS w0 b I A B1 M g (updB L 23) (x.setCell ⟨b, B1, none⟩ (.bool true)) := by
  refine ⟨by rw [World.size_setCell]; exact h.sz, h.os, h.tape, h.output, fun q hq => (heap_setCell_other _ _ _ _ hq).trans (h.kp q hq), ?_⟩
  rw [updB_eq, updB_ne (L := L) (i := 23) (k := 21) (by decide)]
  refine (h.row.set B1 (.bool true)).congr fun j _ => ?_
  rw [hL]
  by_cases e : j = B1 <;> simp [e]
end

set_option maxHeartbeats 1600000 in
theorem cone_no {w : World} {F : Nat → Prop} {g mo : Nat} {ks : List Kd} (h : Gr w F g mo ks) {l : Int} (hl : litB ks.length l = false) :
    Calls Try.prog 17 #[.pointer (some ⟨g, 0, none⟩), .int .i64 l] w fun e w' => e = .returned (.slice none 0 0) ∧ Below w.heap.size w w' := by
  have HH : Hid (∀ (wx : World) q, Below w.heap.size w wx → Li wx q 0 [l] → Calls Try.prog 35 #[.pointer (some ⟨g, 0, none⟩), .slice (some ⟨q, 0, none⟩) 1 1] wx fun e w' => e = .returned (.bool false) ∧ Below wx.heap.size wx w') := fun wx q hb hq => by
    have := has_any (h.below hb) (c := 1) hq (by simp)
    rw [show [l].all (litB ks.length) = litB ks.length l by simp, hl] at this
    exact this
  clear h hl
  go_enter Try.func17, Try.ntmps17
  go_wp2_with fail
  refine (HH.out _ _ (by go_grown) (Li_one w l _)).mono ?_
  rintro e w1 ⟨rfl, hb⟩
  have hb1 : Below w.heap.size w w1 := Below.trans (by go_grown) (hb.mono (by simp))
  clear hb
  go_wp2_with fail
  go_ret
  exact ⟨rfl, hb1⟩

theorem rev_nil (w : World) (a : Option Addr) (c : Nat) :
    Calls Try.prog 37 #[.slice a 0 c] w fun e w' => e = .returned (.tuple #[]) ∧ w' = w := by
  go_enter Try.func37, Try.ntmps37
  go_wp2_with fail
  refine wp_loop_rounds 1 ?_
  rw [rounds_succ]
  go_wp2_with fail
  go_end0
  exact ⟨rfl, rfl⟩
set_option maxRecDepth 20000 in
set_option maxHeartbeats 12800000 in
theorem cone_yes {w : World} {F : Nat → Prop} {g mo : Nat} {ks : List Kd} (h : Gr w F g mo ks) {l : Nat} (hl : litB ks.length (l : Int) = true) :
    Calls Try.prog 17 #[.pointer (some ⟨g, 0, none⟩), .int .i64 (l : Int)] w fun e w' => ∃ u, e = .returned u ∧ Rl w' w.heap.size u (coneF ks (l / 2)) ∧ Below w.heap.size w w' := by
  have HH : Hid (∀ (wx : World) q, Below w.heap.size w wx → Li wx q 0 [(l : Int)] → Calls Try.prog 35 #[.pointer (some ⟨g, 0, none⟩), .slice (some ⟨q, 0, none⟩) 1 1] wx fun e w' => e = .returned (.bool true) ∧ Below wx.heap.size wx w') := fun wx q hb hq => by
    have := has_any (h.below hb) (c := 1) hq (by simp)
    rw [show [(l : Int)].all (litB ks.length) = litB ks.length l by simp, hl] at this
    exact this
  have hlen := h.len
  have hlt : l < 2 * ks.length := by have := litB_iff.1 hl; omega
  obtain ⟨m, v1, u, hx, -⟩ := h
  have HIV : Hid _ := hx.inv
  have hg := hx.lt
  have HC1 : Hid _ := hx.c1
  obtain ⟨r, cap, rfl, hrl, -, hkc⟩ := hx.sl
  have HKC : Hid _ := hkc
  obtain ⟨t0, ht0, hz0, hz1, hz2⟩ := info_any infoInt
  have HI0 : Hid (Try.prog.info? 3 = some t0 ∧ t0.zero = some (.int .i64 0) ∧ t0.size = 1 ∧ t0.bytes = 8) := ⟨ht0, hz0, hz1, hz2⟩
  obtain ⟨id, eid⟩ : ∃ id, id = l / 2 := ⟨_, rfl⟩
  rw [← eid]
  obtain ⟨I, eI⟩ : ∃ I, I = id + 1 := ⟨_, rfl⟩
  have HNO : Hid (∀ wx, Calls Try.prog 36 #[.int .i64 (l : Int)] wx fun e w' => e = .returned (.int .i64 (id : Int)) ∧ w' = wx) := fun wx => by rw [eid]; exact node_any l wx
  obtain ⟨N, eN⟩ : ∃ N, N = ks.length := ⟨_, rfl⟩
  have HNL : Hid _ := eN
  rw [← eN] at hlt hlen HC1
  have hidN : id < N := by omega
  have hmk : ∀ wx, (Instr.makeSlice 23 (.int .i64 ((id : Int) + 1)) (.int .i64 ((id : Int) + 1))).run Try.prog wx = .ok (.slice (some ⟨wx.heap.size, 0, none⟩) I I) (wx.alloc (.cells (madeCells #[.bool false] I) 4)) := fun wx => by
    have hx := run_make_row' (P := Try.prog) 23 4 (.bool false) 1 underBools infoBool rfl .i64 .i64 I (by omega) (by omega) wx
    rw [show (I : Int) = (id : Int) + 1 by omega] at hx
    exact hx
  have hidI : (id : Int) < (I : Int) := by omega
  have hid0 : (id : Int) < 40000 := by omega
  have HEI : Hid _ := eI
  have hI3 : I ≤ 40000 := by omega
  clear hx hl hkc eN eid eI ht0 hz0 hz1 hz2 hlt
  go_enter Try.func17, Try.ntmps17
  go_wp2_with fail
  refine (HH.out _ _ (by go_grown) (Li_one w l _)).mono ?_
  rintro e w1 ⟨rfl, hb⟩
  have hb1 : Below w.heap.size w w1 := Below.trans (by go_grown) (hb.mono (by simp))
  have hs1 := hb1.size
  have hg1 : g < w1.heap.size := by omega
  have hr1 : r < w1.heap.size := by omega
  have HC1' : Hid (w1.cell? ⟨g, 1, none⟩ = some (.slice (some ⟨r, 0, none⟩) N cap)) := bel_cell hb1 hg HC1.out
  have HKC' : Hid (∀ (i : Nat) (k : Kd), ks[i]? = some k → w1.cell? ⟨r, i * 2, none⟩ = some (.int .i64 (k.1 : Int)) ∧ w1.cell? ⟨r, i * 2 + 1, none⟩ = some (.int .i64 (k.2 : Int))) := fun i k hi => ⟨keep_cell hb1 (HKC.out i k hi).1, keep_cell hb1 (HKC.out i k hi).2⟩
  have HROW : Hid ((w1.alloc (.cells ((madeCells #[.bool false] I).setIfInBounds id (.bool true)) 4)).rowIs w1.heap.size 4 I (fun j => .bool ((dn ks id 0).1 j))) :=
    ⟨_, heap_alloc_new w1 _, by rw [Array.size_setIfInBounds]; exact size_madeCells _ _, fun j hj => by
      show _ = some (Value.bool (decide (j = id)))
      rw [Array.getElem?_setIfInBounds]
      by_cases e : j = id
      · subst e; simp [size_madeCells, hj]
      · rw [if_neg (fun x => e x.symm)]; simp [madeCells, hj, e, Nat.mod_one]⟩
  have kc : (w1.alloc (.cells (madeCells #[.bool false] I) 4)).cell? ⟨w1.heap.size, id, none⟩ = some (.bool false) := (World.rowIs_made w1 (.bool false) I 4).cell (by omega)
  have kf : (w1.alloc (.cells (madeCells #[.bool false] I) 4)).frozen? ⟨w1.heap.size, id, none⟩ = false := (World.rowIs_made w1 (.bool false) I 4).frozen id
  clear hb HH HC1 HKC
  go_wp2_with fail
  refine (HNO.out _).mono ?_
  rintro e wz ⟨rfl, hw⟩
  rw [hw]
  clear hw wz
  go_wp2_with fail
  refine (HNO.out _).mono ?_
  rintro e wz ⟨rfl, hw⟩
  rw [hw]
  clear hw wz
  go_wp2_with fail
  refine (HNO.out _).mono ?_
  rintro e wz ⟨rfl, hw⟩
  rw [hw]
  clear hw wz
  go_wp2_with fail
  clear hmk kc kf
  go_loopw [6, 7] (fun v i wr => ∃ k : Nat, k ≤ id ∧ i = .int .i64 (k : Int) ∧ Is' wr (w1.heap.size + 1) v (dn ks id (id - k)).2 ∧ wr.rowIs w1.heap.size 4 I (fun j => .bool ((dn ks id (id - k)).1 j)) ∧ w1.heap.size + 1 ≤ wr.heap.size ∧ Below w1.heap.size w1 wr) (fun v i wr => (intOf i).toNat)
  case atStart =>
    refine ⟨id, Nat.le_refl _, rfl, ?_, ?_, by simp, by go_grown⟩
    · rw [Nat.sub_self]; exact World.ownsRow_nil _ _ _ _
    · rw [Nat.sub_self]; exact HROW.out
  case round =>
    clear HROW HNO
    obtain ⟨k0, hk, rfl, hIs, hrow, hws, hbl⟩ := hrel
    have hbw : Below w.heap.size w wr := hb1.trans (hbl.mono hs1)
    by_cases hk0 : k0 = 0
    · subst hk0
      rw [Nat.sub_zero] at hIs
      have hl5 := dn_len ks id id
      by_cases hid00 : id = 0
      · have HCF : Hid (coneF ks id = []) := by unfold Hid coneF; rw [hid00]; rfl
        have hnil : (dn ks id id).2 = [] := by rw [hid00]; rfl
        rw [hnil] at hIs
        obtain ⟨a1, c1, hv, -⟩ := Is'.any hIs
        rw [show ([] : List Int).length = 0 from rfl] at hv
        subst hv
        have HRV : Hid _ := rev_nil wr a1 c1
        clear hIs hrow hl5 hnil hid00
        go_wp2_with fail
        refine Calls.mono HRV.out ?_
        rintro e wz ⟨rfl, hw⟩
        rw [hw]
        clear hw wz
        go_wp2_with fail
        go_ret
        exact ⟨_, rfl, ⟨a1, c1, by rw [HCF.out]; rfl, by rw [HCF.out]; simp, by rw [HCF.out]; simp, Or.inl HCF.out⟩, hbw⟩
      · have hne : (dn ks id id).2 ≠ [] := by
          obtain ⟨t, rfl⟩ : ∃ t, id = t + 1 := ⟨id - 1, by omega⟩
          exact dn_pos t
        have hl0 : 0 < (dn ks id id).2.length := List.length_pos_iff.2 hne
        obtain ⟨r1, cap1, C1, f1, rfl, hr1, hcap1, hrow1, hC1, hf1⟩ := Is'.row hIs hne
        have HRV : Hid _ := rev_any (cap := cap1) rfl hrow1 hf1 hC1 (by omega) hl0
        have HLL : Hid _ := hcap1
        have HLM : Hid ((dn ks id id).2.length ≤ 50000) := by unfold Hid; omega
        obtain ⟨L, hL⟩ : ∃ L, L = (dn ks id id).2 := ⟨_, rfl⟩
        have HCF : Hid (coneF ks id = L.reverse) := by unfold Hid coneF; rw [hL]
        rw [← hL] at HRV HLL HLM
        rw [← hL]
        clear hIs hrow hrow1 hf1 hne hl5 hl0 hL
        go_wp2_with fail
        refine Calls.mono HRV.out ?_
        rintro e w2 ⟨rfl, hLi, hb2⟩
        have HLi : Hid _ := hLi
        clear hLi
        go_wp2_with fail
        go_ret
        refine ⟨.slice (some ⟨r1, 0, none⟩) L.length cap1, rfl, ⟨some ⟨r1, 0, none⟩, cap1, by rw [HCF.out, List.length_reverse], by rw [HCF.out, List.length_reverse]; exact HLL.out, by rw [HCF.out, List.length_reverse]; exact HLM.out, Or.inr ⟨r1, rfl, by omega, by rw [HCF.out]; exact HLi.out⟩⟩, hbw.trans (hb2.mono (by omega))⟩
    · obtain ⟨k, rfl⟩ : ∃ k, k0 = k + 1 := ⟨k0 - 1, by omega⟩
      clear hk0
      obtain ⟨n, hn⟩ : ∃ n, ks[k + 1]? = some n := ⟨_, List.getElem?_eq_getElem (by rw [← HNL.out]; omega)⟩
      have cm : wr.cell? ⟨w1.heap.size, k + 1, none⟩ = some (.bool ((dn ks id (id - (k + 1))).1 (k + 1))) := hrow.cell (by have := HEI.out; omega)
      rw [show ((k + 1 : Nat) : Int) = (k : Int) + 1 from rfl]
      have x1 : (0 : Int) < (k : Int) + 1 := by omega
      have x2 : (k : Int) + 1 < (I : Int) := by omega
      have x3 : (k : Int) < 40000 := by omega
      have x4 : (k : Int) + 1 < (N : Int) := by omega
      have hsw : w1.heap.size < wr.heap.size := by omega
      by_cases hm : (dn ks id (id - (k + 1))).1 (k + 1) = true
      · have HST : Hid _ := dn_yes (by omega) hm hn
        rw [hm] at cm
        have HLN : Hid ((dn ks id (id - (k + 1))).2.length ≤ 40000) := by unfold Hid; have := dn_len ks id (id - (k + 1)); omega
        obtain ⟨M, hM⟩ : ∃ M, M = (dn ks id (id - (k + 1))).1 := ⟨_, rfl⟩
        obtain ⟨L, hL⟩ : ∃ L, L = (dn ks id (id - (k + 1))).2 := ⟨_, rfl⟩
        rw [← hM] at HST hrow
        rw [← hL] at HST HLN hIs
        have HI : Hid _ := hIs
        have HRW : Hid _ := hrow
        have hkd : n.1 / 2 ≤ k ∧ n.2 / 2 ≤ k := by
          by_cases h00 : n = (0, 0)
          · rw [h00]; simp
          · have := HIV.out.kid (k + 1) n hn h00
            omega
        obtain ⟨q0, q1⟩ := HKC'.out (k + 1) n hn
        obtain ⟨k1, k2⟩ := n
        dsimp only at hkd q0 q1 HST
        obtain ⟨A, hA⟩ : ∃ A, A = k1 / 2 := ⟨_, rfl⟩
        obtain ⟨B1, hB⟩ : ∃ B1, B1 = k2 / 2 := ⟨_, rfl⟩
        rw [← hA, ← hB] at hkd HST
        have HNA : Hid (∀ wx, Calls Try.prog 36 #[.int .i64 (k1 : Int)] wx fun e w' => e = .returned (.int .i64 (A : Int)) ∧ w' = wx) := fun wx => by rw [hA]; exact node_any k1 wx
        have HNB : Hid (∀ wx, Calls Try.prog 36 #[.int .i64 (k2 : Int)] wx fun e w' => e = .returned (.int .i64 (B1 : Int)) ∧ w' = wx) := fun wx => by rw [hB]; exact node_any k2 wx
        have a1 : (A : Int) < (I : Int) := by omega
        have a2 : (B1 : Int) < (I : Int) := by omega
        have a1' : A < I := by omega
        have a2' : B1 < I := by omega
        have HF : Hid (∀ j, (dn ks id (id - k)).1 j = (M j || decide (j = A) || decide (j = B1))) := fun j => by rw [HST.out]
        have HL2 : Hid ((dn ks id (id - k)).2 = L ++ [(k : Int) + 1]) := by unfold Hid; rw [HST.out]
        have HQ0 : Hid _ := q0
        have HQ1 : Hid _ := q1
        clear hM hL hm hIs hrow hn hkd hA hB HST q0 q1
        go_wp2_with (at_builtin; refine wpList_append_own_at _ rfl _ _ 43 rfl (w1.heap.size + 1) 3 t0 (.int .i64 0) 1 8 underInts HI0.out.1 HI0.out.2.1 HI0.out.2.2.1 HI0.out.2.2.2 rfl (by decide) _ _ _ rfl (row_kept HI.out (fun _ hq => heap_alloc_old _ _ hq)) ⟨wr.heap.size, 0, none⟩ 1 1 [.int .i64 ((k : Int) + 1)] rfl rfl (cell_one_new _ _ _) (ones [(k : Int) + 1]) (by have := HLN.out; unfold maxLen; omega) (by have := HLN.out; omega) (by simp; omega) ?_; intro v1 w2 hown hgrow hnil hat; obtain ⟨⟨c1, d0, d1⟩, ⟨m1, m2, f1, f2⟩, hs2, hb2, hR1⟩ := app_facts hbl hws HI.out hgrow hg1 hr1 HC1'.out HQ0.out HQ1.out HRW.out a1' a2'; have HRW1 : Hid _ := hR1; have hsw1 : w1.heap.size < w2.heap.size := (by omega); have hrw1 : r < w2.heap.size := (by omega); have hgw1 : g < w2.heap.size := (by omega); have HOW : Hid (Is' w2 (w1.heap.size + 1) v1 (dn ks id (id - k)).2) := (by unfold Hid Is'; rw [HL2.out, List.map_append, List.length_append]; exact hown); clear hown hgrow hnil hat hR1; clear cm)
        have HRR : Hid (w2.rowIs w1.heap.size 4 I (fun j => .bool (M j))) := HRW1.out
        have HCF : Hid (∀ x : World, (∀ q, q ≠ w1.heap.size → x.heap[q]? = w2.heap[q]?) → x.cell? ⟨g, 1, none⟩ = some (.slice (some ⟨r, 0, none⟩) N cap) ∧ x.cell? ⟨r, (k + 1) * 2, none⟩ = some (.int .i64 (k1 : Int)) ∧ x.cell? ⟨r, (k + 1) * 2 + 1, none⟩ = some (.int .i64 (k2 : Int))) := fun x hx => ⟨(World.cell?_of_block (hx g (by omega))).trans c1, (World.cell?_of_block (hx r (by omega))).trans d0, (World.cell?_of_block (hx r (by omega))).trans d1⟩
        clear c1 d0 d1 m1 m2 f1 f2
        refine wp_named fun a0 ha0 => ?_
        have o0 := old_at ha0 (t := 0) rfl
        have o5 := old_at ha0 (t := 5) rfl
        have o7 := old_at ha0 (t := 7) rfl
        refine wp_region_lin (S := MS w2 w1.heap.size I A B1 M) [] (fun _ => 0) (by kernel_rfl) (by kernel_rfl) (by rw [← ha0]; kernel_rfl) (MS.start HRR.out) ?_
        apply LinAll.cons0
        · intro g5 L5 a5 x hLi haft hS hK; have t5 := (hK.old 5 (by kernel_rfl)).trans o5; (try dsimp only at t5); refine go_in (wanted_all rfl) ?_; intro K hk; clear haft hK hLi; go_simp; exact hk.out g5 x (fun _ _ => rfl) (hS.go rfl)
        apply LinAll.cons0
        · intro g5 L5 a5 x hLi haft hS hK; have t0 := (hK.old 0 (by kernel_rfl)).trans o0; (try dsimp only at t0); refine go_in (wanted_all rfl) ?_; intro K hk; clear haft hK hLi; go_simp; exact hk.out g5 x (fun _ _ => rfl) (hS.go rfl)
        apply LinAll.cons0
        · intro g5 L5 a5 x hLi haft hS hK; have t36 := hK.new 1 0 _ 36 _ rfl rfl rfl (by kernel_rfl) (waits haft 1 (by kernel_rfl)); (try dsimp only at t36); refine go_in (wanted_all rfl) ?_; intro K hk; clear haft hK hLi; go_simp; exact hk.out g5 x (fun _ _ => rfl) (hS.go rfl)
        apply LinAll.cons0
        · intro g5 L5 a5 x hLi haft hS hK; have t37 := hK.new 2 0 _ 37 _ rfl rfl rfl (by kernel_rfl) (waits haft 2 (by kernel_rfl)); (try dsimp only at t37); refine go_in (wanted_all rfl) ?_; intro K hk; clear haft hK hLi; go_simp; exact hk.out g5 x (fun _ _ => rfl) (hS.go rfl)
        apply LinAll.cons0
        · intro g5 L5 a5 x hLi haft hS hK; have t38 := hK.new 3 0 _ 38 _ rfl rfl rfl (by kernel_rfl) (waits haft 3 (by kernel_rfl)); (try dsimp only at t38); refine go_in (wanted_all rfl) ?_; intro K hk; obtain ⟨e1, e2, e3⟩ := HCF.out x hS.kp; clear haft hK hLi; go_simp; exact hk.out g5 x (fun _ _ => rfl) (hS.go rfl)
        apply LinAll.cons0
        · intro g5 L5 a5 x hLi haft hS hK; have t7 := (hK.old 7 (by kernel_rfl)).trans o7; (try dsimp only at t7); refine go_in (wanted_all rfl) ?_; intro K hk; clear haft hK hLi; go_simp; exact hk.out g5 x (fun _ _ => rfl) (hS.go rfl)
        apply LinAll.cons0
        · intro g5 L5 a5 x hLi haft hS hK; have t39 := hK.new 4 1 _ 39 _ rfl rfl rfl (by kernel_rfl) (waits haft 4 (by kernel_rfl)); have t40 := hK.new 5 0 _ 40 _ rfl rfl rfl (by kernel_rfl) (waits haft 5 (by kernel_rfl)); (try dsimp only at t39 t40); refine go_in (wanted_all rfl) ?_; intro K hk; clear haft hK hLi; go_simp; exact hk.out g5 x (fun _ _ => rfl) (hS.go rfl)
        apply LinAll.cons0
        · intro g5 L5 a5 x hLi haft hS hK; have t41 := hK.new 6 0 _ 41 _ rfl rfl rfl (by kernel_rfl) (waits haft 6 (by kernel_rfl)); (try dsimp only at t41); refine go_in (wanted_all rfl) ?_; intro K hk; clear haft hK hLi; go_simp; exact hk.out g5 x (fun _ _ => rfl) (hS.go rfl)
        apply LinAll.cons0
        · intro g5 L5 a5 x hLi haft hS hK; have t42 := hK.new 7 0 _ 42 _ rfl rfl rfl (by kernel_rfl) (waits haft 7 (by kernel_rfl)); (try dsimp only at t42); refine go_in (wanted_all rfl) ?_; intro K hk; obtain ⟨e1, e2, e3⟩ := HCF.out x hS.kp; clear haft hK hLi; go_simp; exact hk.out g5 x (fun _ _ => rfl) (hS.go rfl)
        apply LinAll.cons0
        · intro g5 L5 a5 x hLi haft hS hK; have t43 := hK.new 8 0 _ 43 _ rfl rfl rfl (by kernel_rfl) (waits haft 8 (by kernel_rfl)); (try dsimp only at t43); refine go_in (wanted_all rfl) ?_; intro K hk; clear haft hK hLi; go_simp; refine (HNA.out _).mono ?_; rintro e y ⟨rfl, hw⟩; rw [hw]; exact hk.out g5 x (fun _ _ => rfl) (hS.go rfl)
        apply LinAll.cons0
        · intro g5 L5 a5 x hLi haft hS hK; have t5 := (hK.old 5 (by kernel_rfl)).trans o5; (try dsimp only at t5); refine go_in (wanted_all rfl) ?_; intro K hk; clear haft hK hLi; go_simp; exact hk.out g5 x (fun _ _ => rfl) (hS.go rfl)
        apply LinAll.cons0
        · intro g5 L5 a5 x hLi haft hS hK; have t0 := (hK.old 0 (by kernel_rfl)).trans o0; (try dsimp only at t0); refine go_in (wanted_all rfl) ?_; intro K hk; clear haft hK hLi; go_simp; exact hk.out g5 x (fun _ _ => rfl) (hS.go rfl)
        apply LinAll.cons0
        · intro g5 L5 a5 x hLi haft hS hK; have t46 := hK.new 11 0 _ 46 _ rfl rfl rfl (by kernel_rfl) (waits haft 11 (by kernel_rfl)); (try dsimp only at t46); refine go_in (wanted_all rfl) ?_; intro K hk; clear haft hK hLi; go_simp; exact hk.out g5 x (fun _ _ => rfl) (hS.go rfl)
        apply LinAll.cons0
        · intro g5 L5 a5 x hLi haft hS hK; have t47 := hK.new 12 0 _ 47 _ rfl rfl rfl (by kernel_rfl) (waits haft 12 (by kernel_rfl)); (try dsimp only at t47); refine go_in (wanted_all rfl) ?_; intro K hk; clear haft hK hLi; go_simp; exact hk.out g5 x (fun _ _ => rfl) (hS.go rfl)
        apply LinAll.cons0
        · intro g5 L5 a5 x hLi haft hS hK; have t48 := hK.new 13 0 _ 48 _ rfl rfl rfl (by kernel_rfl) (waits haft 13 (by kernel_rfl)); (try dsimp only at t48); refine go_in (wanted_all rfl) ?_; intro K hk; obtain ⟨e1, e2, e3⟩ := HCF.out x hS.kp; clear haft hK hLi; go_simp; exact hk.out g5 x (fun _ _ => rfl) (hS.go rfl)
        apply LinAll.cons0
        · intro g5 L5 a5 x hLi haft hS hK; have t7 := (hK.old 7 (by kernel_rfl)).trans o7; (try dsimp only at t7); refine go_in (wanted_all rfl) ?_; intro K hk; clear haft hK hLi; go_simp; exact hk.out g5 x (fun _ _ => rfl) (hS.go rfl)
        apply LinAll.cons0
        · intro g5 L5 a5 x hLi haft hS hK; have t49 := hK.new 14 1 _ 49 _ rfl rfl rfl (by kernel_rfl) (waits haft 14 (by kernel_rfl)); have t50 := hK.new 15 0 _ 50 _ rfl rfl rfl (by kernel_rfl) (waits haft 15 (by kernel_rfl)); (try dsimp only at t49 t50); refine go_in (wanted_all rfl) ?_; intro K hk; clear haft hK hLi; go_simp; exact hk.out g5 x (fun _ _ => rfl) (hS.go rfl)
        apply LinAll.cons0
        · intro g5 L5 a5 x hLi haft hS hK; have t51 := hK.new 16 0 _ 51 _ rfl rfl rfl (by kernel_rfl) (waits haft 16 (by kernel_rfl)); (try dsimp only at t51); refine go_in (wanted_all rfl) ?_; intro K hk; clear haft hK hLi; go_simp; exact hk.out g5 x (fun _ _ => rfl) (hS.go rfl)
        apply LinAll.cons0
        · intro g5 L5 a5 x hLi haft hS hK; have t52 := hK.new 17 0 _ 52 _ rfl rfl rfl (by kernel_rfl) (waits haft 17 (by kernel_rfl)); (try dsimp only at t52); refine go_in (wanted_all rfl) ?_; intro K hk; obtain ⟨e1, e2, e3⟩ := HCF.out x hS.kp; clear haft hK hLi; go_simp; exact hk.out g5 x (fun _ _ => rfl) (hS.go rfl)
        apply LinAll.cons0
        · intro g5 L5 a5 x hLi haft hS hK; have t53 := hK.new 18 0 _ 53 _ rfl rfl rfl (by kernel_rfl) (waits haft 18 (by kernel_rfl)); (try dsimp only at t53); refine go_in (wanted_all rfl) ?_; intro K hk; clear haft hK hLi; go_simp; refine (HNB.out _).mono ?_; rintro e y ⟨rfl, hw⟩; rw [hw]; exact hk.out g5 x (fun _ _ => rfl) (hS.go rfl)
        apply LinAll.cons0
        · intro g5 L5 a5 x hLi haft hS hK; have t35 := hK.new 0 19 _ 35 _ rfl rfl rfl (by kernel_rfl) (waits haft 0 (by kernel_rfl)); have t44 := hK.new 9 10 _ 44 _ rfl rfl rfl (by kernel_rfl) (waits haft 9 (by kernel_rfl)); (try dsimp only at t35 t44); refine go_in (wanted_all rfl) ?_; intro K hk; clear haft hK hLi; go_simp; exact hk.out g5 x (fun _ _ => rfl) (hS.go rfl)
        refine LinAll.cons0 (v := fun _ => undef) ?_ ?_
        · intro g5 L5 a5 x hLi haft hS hK; have t55 := hK.new 20 0 _ 55 _ rfl rfl rfl (by kernel_rfl) (waits haft 20 (by kernel_rfl)); (try dsimp only at t55); refine go_in (wanted_all rfl) ?_; intro K hk; have m1 := hS.row.cell a1'; have m2 := hS.row.frozen A; have hN := hS.s21 hLi; clear haft hK hLi hS; go_simp; exact hk.out g5 _ (fun _ _ => rfl) hN
        apply LinAll.cons0
        · intro g5 L5 a5 x hLi haft hS hK; have t45 := hK.new 10 11 _ 45 _ rfl rfl rfl (by kernel_rfl) (waits haft 10 (by kernel_rfl)); have t54 := hK.new 19 2 _ 54 _ rfl rfl rfl (by kernel_rfl) (waits haft 19 (by kernel_rfl)); (try dsimp only at t45 t54); refine go_in (wanted_all rfl) ?_; intro K hk; clear haft hK hLi; go_simp; exact hk.out g5 x (fun _ _ => rfl) (hS.go rfl)
        refine LinAll.cons0 (v := fun _ => undef) ?_ ?_
        · intro g5 L5 a5 x hLi haft hS hK; have t56 := hK.new 22 0 _ 56 _ rfl rfl rfl (by kernel_rfl) (waits haft 22 (by kernel_rfl)); (try dsimp only at t56); refine go_in (wanted_all rfl) ?_; intro K hk; have m1 := hS.row.cell a2'; have m2 := hS.row.frozen B1; have hN := hS.s23 hLi; clear haft hK hLi hS; go_simp; exact hk.out g5 _ (fun _ _ => rfl) hN
        refine LinAll.nil fun g5 x hS => ?_
        subst ha0
        simp only [Act.put, List.setIfInBounds_toArray, List.set_cons_zero, List.set_cons_succ]
        clear o0 o5 o7
        have HS : Hid _ := hS
        clear hS
        go_wp2_with fail
        refine ⟨⟨k, by omega, by go_num, row_sets HOW.out ?_, ?_, ?_, ?_⟩, by simp [intOf]⟩
        · intro q hq hl
          exact HS.out.kp q (by omega)
        · refine HS.out.row.congr fun j _ => ?_
          rw [HF.out j]
          simp
        · rw [HS.out.sz]; exact hs2
        · exact hb2.trans ⟨HS.out.os, HS.out.tape, HS.out.output, Nat.le_of_eq HS.out.sz.symm, fun q hq => HS.out.kp q (by omega)⟩
      · rw [Bool.not_eq_true] at hm
        rw [hm] at cm
        have HST : Hid _ := dn_no (by omega) hm
        have HI : Hid _ := hIs
        have HRW : Hid _ := hrow
        clear hIs hrow hm hn
        go_wp2_with fail
        exact ⟨⟨k, by omega, by go_num, by rw [HST.out]; exact HI.out, by rw [HST.out]; exact HRW.out, hws, hbl⟩, by simp [intOf]⟩
theorem cone_any {w : World} {F : Nat → Prop} {g mo : Nat} {ks : List Kd} (h : Gr w F g mo ks) (l : Int) :
    Calls Try.prog 17 #[.pointer (some ⟨g, 0, none⟩), .int .i64 l] w fun e w' => ∃ u, e = .returned u ∧ Rl w' w.heap.size u (coneL ks l) ∧ Below w.heap.size w w' := by
  unfold coneL
  cases hb : litB ks.length l
  · refine (cone_no h hb).mono ?_
    rintro e w' ⟨rfl, hb⟩
    exact ⟨_, rfl, ⟨none, 0, rfl, Nat.le_refl _, by simp, Or.inl rfl⟩, hb⟩
  · obtain ⟨L, rfl⟩ : ∃ L : Nat, l = (L : Int) := ⟨l.toNat, by have := litB_iff.1 hb; omega⟩
    rw [Int.toNat_natCast]
    exact cone_yes h hb
end Go.Proofs.Ytdmochghcmeebaa
