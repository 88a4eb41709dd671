/- Contracts (terms): the variables of a graph; three numbers turned round. -/
import Derived.Test.YtjmbicaacplolaaY9
import Derived.BigRegion
namespace Go.Proofs.Ytjmbicaacplolaa
open Go.RowKit
set_option linter.unusedSimpArgs false
set_option linter.unusedVariables false
/-- The numbers of the variables. -/
def vsF (ns : List Nd) : List Int := (ns.mapIdx fun i n => (n, i)).filterMap fun x => if x.1.op = 2 then some ((x.2 : Int) + 1) else none
theorem vsF_snoc {ns : List Nd} {k : Nat} {n : Nd} (h : ns[k]? = some n) : vsF (ns.take (k + 1)) = vsF (ns.take k) ++ (if n.op = 2 then [(k : Int) + 1] else []) := by
  have hk : k < ns.length := (List.getElem?_eq_some_iff.1 h).1
  rw [List.take_add_one, h]
  unfold vsF
  rw [show (some n).toList = [n] from rfl, List.mapIdx_append, List.filterMap_append]
  congr 1
  by_cases h2 : n.op = 2 <;> simp [h2, Nat.min_eq_left (Nat.le_of_lt hk)]
theorem vsF_len (ns : List Nd) : (vsF ns).length ≤ ns.length := by
  unfold vsF
  refine Nat.le_trans (List.length_filterMap_le _ _) ?_
  simp

set_option maxHeartbeats 6400000 in
theorem vars_any {w : World} {B g mi mv mo : Nat} {v : Value} {ns : List Nd} (h : Gr w B g mi mv v mo ns) (hne : 0 < ns.length) :
    Calls Try.prog 22 #[.pointer (some ⟨g, 0, none⟩)] w fun e w' => ∃ u, e = .returned u ∧ Is' w' w.heap.size u (vsF ns) ∧ Below w.heap.size w w' := by
  have hlen := h.len
  have c1 := h.c1
  have hg := h.lt
  obtain ⟨r, cap, rfl, hBr, hrl, hc⟩ := row_all h.row hne
  have HC : Hid _ := hc
  obtain ⟨t0, ht0, hz0, hz1, hz2⟩ := info_parts info3
  have HI0 : Hid (Try.prog.info? 3 = some t0 ∧ t0.zero = some (.int .i64 0) ∧ t0.size = 1 ∧ t0.bytes = 8) := ⟨ht0, hz0, hz1, hz2⟩
  obtain ⟨N, hN⟩ : ∃ N, N = ns.length := ⟨_, rfl⟩
  have HN : Hid _ := hN
  rw [← hN] at c1 hlen hne
  clear h hc ht0 hz0 hz1 hz2 hBr hN
  go_enter Try.func22, Try.ntmps22
  go_wp2_with fail
  go_loopw [3, 11] (fun v i wr => ∃ k : Nat, k ≤ N ∧ i = .int .i64 (k : Int) ∧ Is' wr w.heap.size v (vsF (ns.take k)) ∧ Below w.heap.size w wr) (fun v i wr => N - (intOf i).toNat)
  case atStart =>
    exact ⟨0, Nat.zero_le _, rfl, World.ownsRow_nil _ _ _ _, Below.refl _ _⟩
  case round =>
    obtain ⟨k, hk, rfl, hI, hbl⟩ := hrel
    have HI : Hid _ := hI
    clear hI
    by_cases hlt : k < N
    · obtain ⟨n, hn⟩ : ∃ n, ns[k]? = some n := ⟨_, List.getElem?_eq_getElem (by rw [← HN.out]; exact hlt)⟩
      have hc := HC.out k n hn
      have d0 : wr.cell? ⟨r, k * 11, none⟩ = some (.int .i64 n.op) := bel_cell hbl hrl (hc 0 _ rfl)
      have d1 : wr.cell? ⟨r, k * 11 + 1, none⟩ = some (.int .i64 n.s) := bel_cell hbl hrl (hc 1 _ rfl)
      have d2 : wr.cell? ⟨r, k * 11 + 2, none⟩ = some (.int .i64 n.a) := bel_cell hbl hrl (hc 2 _ rfl)
      have d3 : wr.cell? ⟨r, k * 11 + 3, none⟩ = some (.int .i64 n.b) := bel_cell hbl hrl (hc 3 _ rfl)
      have d4 : wr.cell? ⟨r, k * 11 + 4, none⟩ = some (.int .i64 n.c) := bel_cell hbl hrl (hc 4 _ rfl)
      have d5 : wr.cell? ⟨r, k * 11 + 5, none⟩ = some (.int .i64 n.p) := bel_cell hbl hrl (hc 5 _ rfl)
      have d6 : wr.cell? ⟨r, k * 11 + 6, none⟩ = some (.int .i64 n.q) := bel_cell hbl hrl (hc 6 _ rfl)
      have d7 : wr.cell? ⟨r, k * 11 + 7, none⟩ = some (.int .i64 n.w) := bel_cell hbl hrl (hc 7 _ rfl)
      have d8 : wr.cell? ⟨r, k * 11 + 8, none⟩ = some (.int .u64 n.lo) := bel_cell hbl hrl (hc 8 _ rfl)
      have d9 : wr.cell? ⟨r, k * 11 + 9, none⟩ = some (.int .u64 n.hi) := bel_cell hbl hrl (hc 9 _ rfl)
      have d10 : wr.cell? ⟨r, k * 11 + 10, none⟩ = some (.string n.nm) := bel_cell hbl hrl (hc 10 _ rfl)
      have hrl' : r < wr.heap.size := Nat.lt_of_lt_of_le hrl hbl.size
      have HS := vsF_snoc hn
      have HLN : Hid ((vsF (ns.take k)).length ≤ 5000) := by unfold Hid; have := vsF_len (ns.take k); simp at this; omega
      clear hc hn
      by_cases h2 : n.op = 2
      · rw [if_pos h2] at HS
        have HSS : Hid _ := HS
        have z2 : (n.op == 2) = true := by simp [h2]
        have e1 : wrap64 ((k : Int) + 1) = (k : Int) + 1 := by unfold wrap64; omega
        clear h2 HS
        go_wp2_with (at_builtin; refine wpList_append_own_at _ rfl _ _ 45 rfl w.heap.size 3 t0 (.int .i64 0) 1 8 under45 HI0.out.1 HI0.out.2.1 HI0.out.2.2.1 HI0.out.2.2.2 rfl (by decide) _ _ _ rfl (row_kept (row_kept HI.out (fun _ hq => heap_alloc_old _ _ hq)) (fun _ hq => heap_alloc_old _ _ hq)) _ 1 1 [.int .i64 ((k : Int) + 1)] rfl rfl (by intro j u hj; match j, hj with | 0, hj => simp at hj; subst hj; simp [Addr.add]) (ones [(k : Int) + 1]) (by have := HLN.out; unfold maxLen; omega) (by have := HLN.out; omega) (by have := hbl.size; simp; omega) ?_; intro v1 w1 hown hgrow hnil hat)
        have hrow : ∀ q, u3.ownBlock = some q → w.heap.size ≤ q := fun q hq => (HI.out.lt q hq).1
        have HI1 : Hid (Is' w1 w.heap.size v1 (vsF (ns.take (k + 1)))) := by
          unfold Hid Is'
          rw [HSS.out, List.map_append, List.length_append]
          exact hown
        have hb1 : Below w.heap.size w w1 := low_grown (hbl.alloc hbl.size _) (by have := hbl.size; simp; omega) hgrow hrow
        clear hown hgrow hnil hat hrow HI
        go_wp2_with fail
        exact ⟨⟨k + 1, by omega, by go_num, HI1.out, hb1⟩, by simp [intOf]; omega⟩
      · rw [if_neg h2, List.append_nil] at HS
        have HSS : Hid _ := HS
        have z2 : (n.op == 2) = false := by simp [h2]
        clear h2 HS
        go_wp2_with fail
        exact ⟨⟨k + 1, by omega, by go_num, by rw [HSS.out]; exact row_kept HI.out (fun _ hq => heap_alloc_old _ _ hq), hbl.alloc hbl.size _⟩, by simp [intOf]; omega⟩
    · obtain rfl : k = N := by omega
      have HF : Hid (Is' wr w.heap.size u3 (vsF ns)) := by have h := HI.out; rw [HN.out, List.take_length] at h; exact h
      clear HI
      go_wp2_with fail
      go_ret
      exact ⟨_, rfl, HF.out, hbl⟩

set_option maxHeartbeats 3200000 in
theorem rev3 {w : World} {r cap : Nat} {x0 x1 x2 : Int} (h0 : w.cell? ⟨r, 0, none⟩ = some (.int .i64 x0)) (h1 : w.cell? ⟨r, 1, none⟩ = some (.int .i64 x1)) (h2 : w.cell? ⟨r, 2, none⟩ = some (.int .i64 x2)) (hf : ∀ o, w.frozen? ⟨r, o, none⟩ = false) :
    Calls Try.prog 34 #[.slice (some ⟨r, 0, none⟩) 3 cap] w fun e w' => e = .returned (.tuple #[]) ∧ w'.cell? ⟨r, 0, none⟩ = some (.int .i64 x2) ∧ w'.cell? ⟨r, 1, none⟩ = some (.int .i64 x1) ∧ w'.cell? ⟨r, 2, none⟩ = some (.int .i64 x0) ∧ Below r w w' := by
  go_enter Try.func34, Try.ntmps34
  go_wp2_with fail
  refine wp_loop_rounds 2 ?_
  rw [rounds_succ]
  go_wp2_with fail
  go_region
  all_goals
    go_wp2_with fail
    rw [rounds_succ]
    go_wp2_with fail
    go_end0
    exact ⟨rfl, by simp [go_sem, h0, h1, h2], by simp [go_sem, h0, h1, h2], by simp [go_sem, h0, h1, h2], by go_grown⟩
theorem frozen_grown {B : Nat} {wr w1 : World} {o : Obj} {row : Option Nat} {b j : Nat} (hg : (wr.alloc o).grownBy w1 row) (hr : ∀ q, row = some q → B ≤ q) (hb : b < B) (hw : b < wr.heap.size) (h : wr.frozen? ⟨b, j, none⟩ = false) : w1.frozen? ⟨b, j, none⟩ = false := by
  rw [World.frozen?_of_block (hg.block b (by simp; omega) (fun e => by have := hr b e.symm; omega)), World.frozen?_of_block (heap_alloc_old wr o hw)]; exact h

def N1 : Nd := ⟨2, 4, 0, 0, 0, 0, 0, 0, 0, 0, ⟨#[120]⟩⟩
def N2 : Nd := ⟨18, 4, 1, 1, 0, 0, 0, 0, 0, 0, ⟨#[]⟩⟩
def N3 : Nd := ⟨38, 8, 2, 2, 0, 0, 0, 0, 0, 0, ⟨#[]⟩⟩
def acc3 (k : Nat) : List Int := if k = 3 then [] else if k = 2 then [3] else if k = 1 then [3, 2] else [3, 2, 1]
def inb (k j : Nat) : Bool := if k = 3 then decide (j = 3) else if k = 2 then !decide (j = 1) else true
theorem mk4 (w : World) : (Instr.makeSlice 56 (.int .i64 4) (.int .i64 4)).run Try.prog w = .ok (.slice (some ⟨w.heap.size, 0, none⟩) 4 4) (w.alloc (.cells #[.bool false, .bool false, .bool false, .bool false] 4)) := by kernel_rfl
theorem set_same {x : World} {b j : Nat} {u v : Value} (h : x.cell? ⟨b, j, none⟩ = some v) : (x.setCell ⟨b, j, none⟩ u).cell? ⟨b, j, none⟩ = some u := by simp [go_sem, h]
theorem row_sets {x y : World} {b : Nat} {e : TypeId} {sz : Nat} {v : Value} {n : Nat} {xs : List Value} (h : x.ownsRow b e sz v n xs) (hk : ∀ q, b ≤ q → q < x.heap.size → y.heap[q]? = x.heap[q]?) : y.ownsRow b e sz v n xs := by
  refine ⟨h.1, ?_⟩
  rcases h.2 with hn | ⟨g, cap, cur, rfl, hb, hgg, rest⟩
  · exact .inl hn
  · exact .inr ⟨g, cap, cur, rfl, hb, by rw [hk g hb (Array.getElem?_eq_some_iff.1 hgg).1]; exact hgg, rest⟩
set_option maxHeartbeats 12800000 in
theorem cone3 {w : World} {B g mi mv mo : Nat} {v : Value} (h : Gr w B g mi mv v mo [N1, N2, N3]) :
    Calls Try.prog 18 #[.pointer (some ⟨g, 0, none⟩), .int .i64 3] w fun e w' => ∃ r cap, e = .returned (.slice (some ⟨r, 0, none⟩) 3 cap) ∧ Li w' r 0 [1, 2, 3] ∧ Below w.heap.size w w' := by
  have H : Hid (Calls Try.prog 33 #[.pointer (some ⟨g, 0, none⟩), .int .i64 3] w fun e w' => e = .returned (.bool true) ∧ w' = w) := has_any h 3
  have c1 := h.c1
  have hg := h.lt
  obtain ⟨r, cap, rfl, hBr, hrl, hc⟩ := row_all h.row (by decide)
  have HC : Hid _ := hc
  have HC1 : Hid _ := c1
  obtain ⟨t0, ht0, hz0, hz1, hz2⟩ := info_parts info3
  have HI0 : Hid (Try.prog.info? 3 = some t0 ∧ t0.zero = some (.int .i64 0) ∧ t0.size = 1 ∧ t0.bytes = 8) := ⟨ht0, hz0, hz1, hz2⟩
  clear h hc c1 ht0 hz0 hz1 hz2 hBr
  go_enter Try.func18, Try.ntmps18
  go_wp2_with fail
  refine Calls.mono H.out ?_
  rintro e wz ⟨rfl, hw⟩
  rw [hw]
  clear hw wz
  have hmk := mk4 w
  go_wp2_with fail
  clear hmk
  go_loopw [5, 7] (fun v i wr => ∃ k : Nat, k ≤ 3 ∧ i = .int .i64 (k : Int) ∧ Is' wr (w.heap.size + 1) v (acc3 k) ∧ (∀ j, j < 4 → wr.cell? ⟨w.heap.size, j, none⟩ = some (.bool (inb k j))) ∧ (∀ o, wr.frozen? ⟨w.heap.size, o, none⟩ = false) ∧ w.heap.size + 1 ≤ wr.heap.size ∧ Below w.heap.size w wr) (fun v i wr => (intOf i).toNat)
  case atStart =>
    refine ⟨3, by omega, rfl, World.ownsRow_nil _ _ _ _, ?_, by intro o; simp, by simp, by go_grown⟩
    intro j hj
    have : j = 0 ∨ j = 1 ∨ j = 2 ∨ j = 3 := by omega
    rcases this with rfl | rfl | rfl | rfl <;> simp [go_sem, inb]
  case round =>
    obtain ⟨k, hk, rfl, hI, hi, hfz, hws, hbl⟩ := hrel
    have hx : k = 0 ∨ k = 1 ∨ k = 2 ∨ k = 3 := by omega
    have HI : Hid _ := hI
    have HIN : Hid _ := hi
    have HFZ : Hid _ := hfz
    clear hI hi hfz hk
    rcases hx with rfl | rfl | rfl | rfl
    · obtain ⟨r1, cap1, rfl, hb1, hcap1, hLi⟩ := Is'.li HI.out (by decide)
      have x0 := hLi 0 (by decide)
      have x1 := hLi 1 (by decide)
      have x2 := hLi 2 (by decide)
      have hfr : ∀ o, wr.frozen? ⟨r1, o, none⟩ = false := by
        intro o
        rcases HI.out.2 with ⟨e, _⟩ | ⟨r2, cap2, cur, e, _, hgg, _⟩
        · cases e
        · cases e; simp [World.frozen?, hgg]
      have HRV : Hid _ := rev3 (cap := cap1) x0 x1 x2 hfr
      clear hLi x0 x1 x2 hfr HI HIN HFZ
      go_wp2_with fail
      refine Calls.mono HRV.out ?_
      rintro e w2 ⟨rfl, y0, y1, y2, hb2⟩
      go_wp2_with fail
      go_ret
      refine ⟨r1, cap1, rfl, ?_, hbl.trans (hb2.mono (by omega))⟩
      intro j hj
      have : j = 0 ∨ j = 1 ∨ j = 2 := by simp at hj; omega
      rcases this with rfl | rfl | rfl
      · exact y0
      · exact y1
      · exact y2
    · have p1 : wr.cell? ⟨w.heap.size, 1, none⟩ = some (.bool true) := HIN.out 1 (by omega)
      have hsw : w.heap.size < wr.heap.size := by omega
      have hrw : r < wr.heap.size := by omega
      go_wp2_with (at_builtin; refine wpList_append_own_at _ rfl _ _ 45 rfl (w.heap.size + 1) 3 t0 (.int .i64 0) 1 8 under45 HI0.out.1 HI0.out.2.1 HI0.out.2.2.1 HI0.out.2.2.2 rfl (by decide) _ _ _ rfl (row_kept HI.out (fun _ hq => heap_alloc_old _ _ hq)) ⟨wr.heap.size, 0, none⟩ 1 1 [.int .i64 1] rfl rfl (cell_one_new _ _ _) (ones [1]) (by decide) (by decide) (by simp; omega) ?_; intro v1 w1 hown hgrow hnil hat; have hrow : ∀ q, u5.ownBlock = some q → w.heap.size + 1 ≤ q := (fun q hq => (HI.out.lt q hq).1); have hb1 : Below w.heap.size w w1 := low_grown hbl (by omega) hgrow (fun q hq => (by have := hrow q hq; omega)); have c1 : w1.cell? ⟨g, 1, none⟩ = _ := bel_cell hb1 hg HC1.out; have d0 : w1.cell? ⟨r, 0, none⟩ = some (.int .i64 2) := bel_cell hb1 hrl (HC.out 0 N1 rfl 0 _ rfl); have d1 : w1.cell? ⟨r, 1, none⟩ = some (.int .i64 4) := bel_cell hb1 hrl (HC.out 0 N1 rfl 1 _ rfl); have d2 : w1.cell? ⟨r, 2, none⟩ = some (.int .i64 0) := bel_cell hb1 hrl (HC.out 0 N1 rfl 2 _ rfl); have d3 : w1.cell? ⟨r, 3, none⟩ = some (.int .i64 0) := bel_cell hb1 hrl (HC.out 0 N1 rfl 3 _ rfl); have d4 : w1.cell? ⟨r, 4, none⟩ = some (.int .i64 0) := bel_cell hb1 hrl (HC.out 0 N1 rfl 4 _ rfl); have d5 : w1.cell? ⟨r, 5, none⟩ = some (.int .i64 0) := bel_cell hb1 hrl (HC.out 0 N1 rfl 5 _ rfl); have d6 : w1.cell? ⟨r, 6, none⟩ = some (.int .i64 0) := bel_cell hb1 hrl (HC.out 0 N1 rfl 6 _ rfl); have d7 : w1.cell? ⟨r, 7, none⟩ = some (.int .i64 0) := bel_cell hb1 hrl (HC.out 0 N1 rfl 7 _ rfl); have d8 : w1.cell? ⟨r, 8, none⟩ = some (.int .u64 0) := bel_cell hb1 hrl (HC.out 0 N1 rfl 8 _ rfl); have d9 : w1.cell? ⟨r, 9, none⟩ = some (.int .u64 0) := bel_cell hb1 hrl (HC.out 0 N1 rfl 9 _ rfl); have d10 : w1.cell? ⟨r, 10, none⟩ = some (.string ⟨#[120]⟩) := bel_cell hb1 hrl (HC.out 0 N1 rfl 10 _ rfl); have i0 : w1.cell? ⟨w.heap.size, 0, none⟩ = some (.bool (inb 1 0)) := cell_grown hgrow hrow (by show w.heap.size < w.heap.size + 1; omega) (HIN.out 0 (by omega)); have i1 : w1.cell? ⟨w.heap.size, 1, none⟩ = some (.bool (inb 1 1)) := cell_grown hgrow hrow (by show w.heap.size < w.heap.size + 1; omega) (HIN.out 1 (by omega)); have i2 : w1.cell? ⟨w.heap.size, 2, none⟩ = some (.bool (inb 1 2)) := cell_grown hgrow hrow (by show w.heap.size < w.heap.size + 1; omega) (HIN.out 2 (by omega)); have i3 : w1.cell? ⟨w.heap.size, 3, none⟩ = some (.bool (inb 1 3)) := cell_grown hgrow hrow (by show w.heap.size < w.heap.size + 1; omega) (HIN.out 3 (by omega)); have hs1 : w.heap.size + 1 ≤ w1.heap.size := (by have := hgrow.size; simp at this; omega); have hsw1 : w.heap.size < w1.heap.size := (by omega); have hrw1 : r < w1.heap.size := (by omega); have hgw1 : g < w1.heap.size := (by omega); have fz : ∀ o, w1.frozen? ⟨w.heap.size, o, none⟩ = false := (fun o => frozen_grown hgrow hrow (by omega) hsw (HFZ.out o)); have HOW : Hid _ := hown; clear hown hgrow hnil hat; simp only [inb] at i0 i1 i2 i3; clear p1)
      go_region
      all_goals
        go_wp2_with fail
        refine ⟨⟨0, by omega, by go_num, row_sets HOW.out ?_, ?_, ?_, ?_, ?_⟩, by simp [intOf]⟩
        · intro q hq hl
          simp only [World.drew]
          refine (heap_alloc_old _ _ (by simp; exact hl)).trans ?_
          repeat rw [heap_setCell_other _ _ _ _ (by show q ≠ w.heap.size; omega)]
        · intro j hj
          have : j = 0 ∨ j = 1 ∨ j = 2 ∨ j = 3 := by omega
          rcases this with rfl | rfl | rfl | rfl <;> first | (simp [go_sem, i0, i1, i2, i3, inb, hsw1]; done) | (simp [go_sem, i0, i1, i2, i3, inb, hsw1]; exact set_same (set_same (set_same i0)))
        · intro o; simp [go_sem, fz]; rw [World.frozen?_of_block (heap_alloc_old _ _ (by simp; exact hsw1))]; simp [go_sem, fz]
        · simp; omega
        · go_grown
    · have p2 : wr.cell? ⟨w.heap.size, 2, none⟩ = some (.bool true) := HIN.out 2 (by omega)
      have hsw : w.heap.size < wr.heap.size := by omega
      have hrw : r < wr.heap.size := by omega
      go_wp2_with (at_builtin; refine wpList_append_own_at _ rfl _ _ 45 rfl (w.heap.size + 1) 3 t0 (.int .i64 0) 1 8 under45 HI0.out.1 HI0.out.2.1 HI0.out.2.2.1 HI0.out.2.2.2 rfl (by decide) _ _ _ rfl (row_kept HI.out (fun _ hq => heap_alloc_old _ _ hq)) ⟨wr.heap.size, 0, none⟩ 1 1 [.int .i64 2] rfl rfl (cell_one_new _ _ _) (ones [2]) (by decide) (by decide) (by simp; omega) ?_; intro v1 w1 hown hgrow hnil hat; have hrow : ∀ q, u5.ownBlock = some q → w.heap.size + 1 ≤ q := (fun q hq => (HI.out.lt q hq).1); have hb1 : Below w.heap.size w w1 := low_grown hbl (by omega) hgrow (fun q hq => (by have := hrow q hq; omega)); have c1 : w1.cell? ⟨g, 1, none⟩ = _ := bel_cell hb1 hg HC1.out; have d0 : w1.cell? ⟨r, 11, none⟩ = some (.int .i64 18) := bel_cell hb1 hrl (HC.out 1 N2 rfl 0 _ rfl); have d1 : w1.cell? ⟨r, 12, none⟩ = some (.int .i64 4) := bel_cell hb1 hrl (HC.out 1 N2 rfl 1 _ rfl); have d2 : w1.cell? ⟨r, 13, none⟩ = some (.int .i64 1) := bel_cell hb1 hrl (HC.out 1 N2 rfl 2 _ rfl); have d3 : w1.cell? ⟨r, 14, none⟩ = some (.int .i64 1) := bel_cell hb1 hrl (HC.out 1 N2 rfl 3 _ rfl); have d4 : w1.cell? ⟨r, 15, none⟩ = some (.int .i64 0) := bel_cell hb1 hrl (HC.out 1 N2 rfl 4 _ rfl); have d5 : w1.cell? ⟨r, 16, none⟩ = some (.int .i64 0) := bel_cell hb1 hrl (HC.out 1 N2 rfl 5 _ rfl); have d6 : w1.cell? ⟨r, 17, none⟩ = some (.int .i64 0) := bel_cell hb1 hrl (HC.out 1 N2 rfl 6 _ rfl); have d7 : w1.cell? ⟨r, 18, none⟩ = some (.int .i64 0) := bel_cell hb1 hrl (HC.out 1 N2 rfl 7 _ rfl); have d8 : w1.cell? ⟨r, 19, none⟩ = some (.int .u64 0) := bel_cell hb1 hrl (HC.out 1 N2 rfl 8 _ rfl); have d9 : w1.cell? ⟨r, 20, none⟩ = some (.int .u64 0) := bel_cell hb1 hrl (HC.out 1 N2 rfl 9 _ rfl); have d10 : w1.cell? ⟨r, 21, none⟩ = some (.string ⟨#[]⟩) := bel_cell hb1 hrl (HC.out 1 N2 rfl 10 _ rfl); have i0 : w1.cell? ⟨w.heap.size, 0, none⟩ = some (.bool (inb 2 0)) := cell_grown hgrow hrow (by show w.heap.size < w.heap.size + 1; omega) (HIN.out 0 (by omega)); have i1 : w1.cell? ⟨w.heap.size, 1, none⟩ = some (.bool (inb 2 1)) := cell_grown hgrow hrow (by show w.heap.size < w.heap.size + 1; omega) (HIN.out 1 (by omega)); have i2 : w1.cell? ⟨w.heap.size, 2, none⟩ = some (.bool (inb 2 2)) := cell_grown hgrow hrow (by show w.heap.size < w.heap.size + 1; omega) (HIN.out 2 (by omega)); have i3 : w1.cell? ⟨w.heap.size, 3, none⟩ = some (.bool (inb 2 3)) := cell_grown hgrow hrow (by show w.heap.size < w.heap.size + 1; omega) (HIN.out 3 (by omega)); have hs1 : w.heap.size + 1 ≤ w1.heap.size := (by have := hgrow.size; simp at this; omega); have hsw1 : w.heap.size < w1.heap.size := (by omega); have hrw1 : r < w1.heap.size := (by omega); have hgw1 : g < w1.heap.size := (by omega); have fz : ∀ o, w1.frozen? ⟨w.heap.size, o, none⟩ = false := (fun o => frozen_grown hgrow hrow (by omega) hsw (HFZ.out o)); have HOW : Hid _ := hown; clear hown hgrow hnil hat; simp only [inb] at i0 i1 i2 i3; clear p2)
      go_region
      all_goals
        go_wp2_with fail
        refine ⟨⟨1, by omega, by go_num, row_sets HOW.out ?_, ?_, ?_, ?_, ?_⟩, by simp [intOf]⟩
        · intro q hq hl
          simp only [World.drew]
          refine (heap_alloc_old _ _ (by simp; exact hl)).trans ?_
          repeat rw [heap_setCell_other _ _ _ _ (by show q ≠ w.heap.size; omega)]
        · intro j hj
          have : j = 0 ∨ j = 1 ∨ j = 2 ∨ j = 3 := by omega
          rcases this with rfl | rfl | rfl | rfl <;> first | (simp [go_sem, i0, i1, i2, i3, inb, hsw1]; done) | (simp [go_sem, i0, i1, i2, i3, inb, hsw1]; exact set_same (set_same (set_same i0)))
        · intro o; simp [go_sem, fz]; rw [World.frozen?_of_block (heap_alloc_old _ _ (by simp; exact hsw1))]; simp [go_sem, fz]
        · simp; omega
        · go_grown
    · have p3 : wr.cell? ⟨w.heap.size, 3, none⟩ = some (.bool true) := HIN.out 3 (by omega)
      have hsw : w.heap.size < wr.heap.size := by omega
      have hrw : r < wr.heap.size := by omega
      go_wp2_with (at_builtin; refine wpList_append_own_at _ rfl _ _ 45 rfl (w.heap.size + 1) 3 t0 (.int .i64 0) 1 8 under45 HI0.out.1 HI0.out.2.1 HI0.out.2.2.1 HI0.out.2.2.2 rfl (by decide) _ _ _ rfl (row_kept HI.out (fun _ hq => heap_alloc_old _ _ hq)) ⟨wr.heap.size, 0, none⟩ 1 1 [.int .i64 3] rfl rfl (cell_one_new _ _ _) (ones [3]) (by decide) (by decide) (by simp; omega) ?_; intro v1 w1 hown hgrow hnil hat; have hrow : ∀ q, u5.ownBlock = some q → w.heap.size + 1 ≤ q := (fun q hq => (HI.out.lt q hq).1); have hb1 : Below w.heap.size w w1 := low_grown hbl (by omega) hgrow (fun q hq => (by have := hrow q hq; omega)); have c1 : w1.cell? ⟨g, 1, none⟩ = _ := bel_cell hb1 hg HC1.out; have d0 : w1.cell? ⟨r, 22, none⟩ = some (.int .i64 38) := bel_cell hb1 hrl (HC.out 2 N3 rfl 0 _ rfl); have d1 : w1.cell? ⟨r, 23, none⟩ = some (.int .i64 8) := bel_cell hb1 hrl (HC.out 2 N3 rfl 1 _ rfl); have d2 : w1.cell? ⟨r, 24, none⟩ = some (.int .i64 2) := bel_cell hb1 hrl (HC.out 2 N3 rfl 2 _ rfl); have d3 : w1.cell? ⟨r, 25, none⟩ = some (.int .i64 2) := bel_cell hb1 hrl (HC.out 2 N3 rfl 3 _ rfl); have d4 : w1.cell? ⟨r, 26, none⟩ = some (.int .i64 0) := bel_cell hb1 hrl (HC.out 2 N3 rfl 4 _ rfl); have d5 : w1.cell? ⟨r, 27, none⟩ = some (.int .i64 0) := bel_cell hb1 hrl (HC.out 2 N3 rfl 5 _ rfl); have d6 : w1.cell? ⟨r, 28, none⟩ = some (.int .i64 0) := bel_cell hb1 hrl (HC.out 2 N3 rfl 6 _ rfl); have d7 : w1.cell? ⟨r, 29, none⟩ = some (.int .i64 0) := bel_cell hb1 hrl (HC.out 2 N3 rfl 7 _ rfl); have d8 : w1.cell? ⟨r, 30, none⟩ = some (.int .u64 0) := bel_cell hb1 hrl (HC.out 2 N3 rfl 8 _ rfl); have d9 : w1.cell? ⟨r, 31, none⟩ = some (.int .u64 0) := bel_cell hb1 hrl (HC.out 2 N3 rfl 9 _ rfl); have d10 : w1.cell? ⟨r, 32, none⟩ = some (.string ⟨#[]⟩) := bel_cell hb1 hrl (HC.out 2 N3 rfl 10 _ rfl); have i0 : w1.cell? ⟨w.heap.size, 0, none⟩ = some (.bool (inb 3 0)) := cell_grown hgrow hrow (by show w.heap.size < w.heap.size + 1; omega) (HIN.out 0 (by omega)); have i1 : w1.cell? ⟨w.heap.size, 1, none⟩ = some (.bool (inb 3 1)) := cell_grown hgrow hrow (by show w.heap.size < w.heap.size + 1; omega) (HIN.out 1 (by omega)); have i2 : w1.cell? ⟨w.heap.size, 2, none⟩ = some (.bool (inb 3 2)) := cell_grown hgrow hrow (by show w.heap.size < w.heap.size + 1; omega) (HIN.out 2 (by omega)); have i3 : w1.cell? ⟨w.heap.size, 3, none⟩ = some (.bool (inb 3 3)) := cell_grown hgrow hrow (by show w.heap.size < w.heap.size + 1; omega) (HIN.out 3 (by omega)); have hs1 : w.heap.size + 1 ≤ w1.heap.size := (by have := hgrow.size; simp at this; omega); have hsw1 : w.heap.size < w1.heap.size := (by omega); have hrw1 : r < w1.heap.size := (by omega); have hgw1 : g < w1.heap.size := (by omega); have fz : ∀ o, w1.frozen? ⟨w.heap.size, o, none⟩ = false := (fun o => frozen_grown hgrow hrow (by omega) hsw (HFZ.out o)); have HOW : Hid _ := hown; clear hown hgrow hnil hat; simp only [inb] at i0 i1 i2 i3; clear p3)
      go_region
      all_goals
        go_wp2_with fail
        refine ⟨⟨2, by omega, by go_num, row_sets HOW.out ?_, ?_, ?_, ?_, ?_⟩, by simp [intOf]⟩
        · intro q hq hl
          simp only [World.drew]
          refine (heap_alloc_old _ _ (by simp; exact hl)).trans ?_
          repeat rw [heap_setCell_other _ _ _ _ (by show q ≠ w.heap.size; omega)]
        · intro j hj
          have : j = 0 ∨ j = 1 ∨ j = 2 ∨ j = 3 := by omega
          rcases this with rfl | rfl | rfl | rfl <;> first | (simp [go_sem, i0, i1, i2, i3, inb, hsw1]; done) | (simp [go_sem, i0, i1, i2, i3, inb, hsw1]; exact set_same (set_same (set_same i0)))
        · intro o; simp [go_sem, fz]; rw [World.frozen?_of_block (heap_alloc_old _ _ (by simp; exact hsw1))]; simp [go_sem, fz]
        · simp; omega
        · go_grown
end Go.Proofs.Ytjmbicaacplolaa
