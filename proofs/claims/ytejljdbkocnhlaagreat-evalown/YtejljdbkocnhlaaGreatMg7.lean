import Derived.Test.YtejljdbkocnhlaaGreatMg6
import Derived.Test.YtejljdbkocnhlaaGreatMg5
import Derived.BigRegion
import Derived.Deep.RegionHeld3
import Derived.Below
import Derived.Laws.IdiomCopy
namespace Go.Proofs.YtejljdbkocnhlaaGreat
set_option maxHeartbeats 12800000
set_option maxRecDepth 100000
open Go.RowKit
set_option linter.unusedSimpArgs false
set_option linter.unusedVariables false
theorem box_cells {w x : World} {n : Nd} {T : TypeId} (hb : Below (w.alloc (.cells #[.int .i64 n.op, .int .i64 n.s, .int .i64 n.a, .int .i64 n.b, .int .i64 n.c, .int .i64 n.p, .int .i64 n.q, .int .i64 n.w, .int .u64 n.lo, .int .u64 n.hi, .string n.nm] T)).heap.size (w.alloc (.cells #[.int .i64 n.op, .int .i64 n.s, .int .i64 n.a, .int .i64 n.b, .int .i64 n.c, .int .i64 n.p, .int .i64 n.q, .int .i64 n.w, .int .u64 n.lo, .int .u64 n.hi, .string n.nm] T)) x) :
  ∀ j u, n.cs[j]? = some u → x.cell? ⟨w.heap.size, j, none⟩ = some u := by
 intro j u hj
 have h := (hb.block w.heap.size (by simp)).trans (heap_alloc_new w _)
 exact cell_of h j (by simpa [Nd.cs] using hj)
theorem srt_no {w : World} {B g mi mv mo : Nat} {v : Value} {ns : List Nd} (h : Gr w B g mi mv v mo ns) {n : Nd} (hp : prt ns.length n = false) :
  Rt 43 #[.pointer (some ⟨g, 0, none⟩), .agg #[.int .i64 n.op, .int .i64 n.s, .int .i64 n.a, .int .i64 n.b, .int .i64 n.c, .int .i64 n.p, .int .i64 n.q, .int .i64 n.w, .int .u64 n.lo, .int .u64 n.hi, .string n.nm]] w (.tuple #[.int .i64 0, .int .i64 32]) := by
 have HP : Hid (∀ wx, Below w.heap.size w wx → Rt 91 #[.pointer (some ⟨g, 0, none⟩), .agg #[.int .i64 n.op, .int .i64 n.s, .int .i64 n.a, .int .i64 n.b, .int .i64 n.c, .int .i64 n.p, .int .i64 n.q, .int .i64 n.w, .int .u64 n.lo, .int .u64 n.hi, .string n.nm]] wx (.bool false)) := fun wx hb => by rw [← hp]; exact parts_any (h.below hb) n
 clear h hp
 go_enter Tryz.func43, Tryz.ntmps43
 go_wp2_with fail
 refine (HP.out _ (by go_grown)).mono ?_
 rintro e wz ⟨rfl, hb⟩
 have hB : Below w.heap.size w wz := Below.trans (by go_grown) (hb.mono (by simp))
 clear hb
 go_wp2_with fail
 refine bodyPost_ret (v := .tuple #[.int .i64 0, .int .i64 32]) (by simp [results, Tryz.results43, go_sem]) rfl ?_
 exact ⟨rfl, hB⟩
theorem srt_one {w : World} {B g mi mv mo : Nat} {v : Value} {ns : List Nd} (h : Gr w B g mi mv v mo ns) {n : Nd} (hf : Fi n) (hp : prt ns.length n = true) (ho : n.op = 1) :
  Rt 43 #[.pointer (some ⟨g, 0, none⟩), .agg #[.int .i64 n.op, .int .i64 n.s, .int .i64 n.a, .int .i64 n.b, .int .i64 n.c, .int .i64 n.p, .int .i64 n.q, .int .i64 n.w, .int .u64 n.lo, .int .u64 n.hi, .string n.nm]] w (.tuple #[.int .i64 (cstS n).1, .int .i64 (cstS n).2]) := by
 have HP : Hid (∀ wx, Below w.heap.size w wx → Rt 91 #[.pointer (some ⟨g, 0, none⟩), .agg #[.int .i64 n.op, .int .i64 n.s, .int .i64 n.a, .int .i64 n.b, .int .i64 n.c, .int .i64 n.p, .int .i64 n.q, .int .i64 n.w, .int .u64 n.lo, .int .u64 n.hi, .string n.nm]] wx (.bool true)) := fun wx hb => by rw [← hp]; exact parts_any (h.below hb) n
 obtain ⟨E, hE⟩ : ∃ E, E = cstS n := ⟨_, rfl⟩
 have HS : Hid (∀ wx, Rt 92 #[.agg #[.int .i64 n.op, .int .i64 n.s, .int .i64 n.a, .int .i64 n.b, .int .i64 n.c, .int .i64 n.p, .int .i64 n.q, .int .i64 n.w, .int .u64 n.lo, .int .u64 n.hi, .string n.nm]] wx (.tuple #[.int .i64 E.1, .int .i64 E.2])) := fun wx => by rw [hE]; exact cst_any hf wx
 rw [← hE]
 have z1 : (n.op == 1) = true := by simp [ho]
 clear h hp hE ho hf
 go_enter Tryz.func43, Tryz.ntmps43
 go_wp2_with fail
 refine (HP.out _ (by go_grown)).mono ?_
 rintro e wz ⟨rfl, hb⟩
 have hB : Below w.heap.size w wz := Below.trans (by go_grown) (hb.mono (by simp))
 have hc := box_cells hb
 have k0 := hc 0 _ rfl
 have k1 := hc 1 _ rfl
 have k2 := hc 2 _ rfl
 have k3 := hc 3 _ rfl
 have k4 := hc 4 _ rfl
 have k5 := hc 5 _ rfl
 have k6 := hc 6 _ rfl
 have k7 := hc 7 _ rfl
 have k8 := hc 8 _ rfl
 have k9 := hc 9 _ rfl
 have k10 := hc 10 _ rfl
 clear hb hc
 go_wp2_with fail
 refine (HS.out _).mono ?_
 rintro e w2 ⟨rfl, hb⟩
 have hB2 : Below w.heap.size w w2 := hB.trans (hb.mono hB.size)
 clear hb
 go_wp2_with fail
 refine bodyPost_ret (v := .tuple #[.int .i64 E.1, .int .i64 E.2]) (by simp [results, Tryz.results43, go_sem]) rfl ?_
 exact ⟨rfl, hB2⟩
theorem srt_two {w : World} {B g mi mv mo : Nat} {v : Value} {ns : List Nd} (h : Gr w B g mi mv v mo ns) {n : Nd} (hf : Fi n) (hp : prt ns.length n = true) (ho : n.op = 2) :
  Rt 43 #[.pointer (some ⟨g, 0, none⟩), .agg #[.int .i64 n.op, .int .i64 n.s, .int .i64 n.a, .int .i64 n.b, .int .i64 n.c, .int .i64 n.p, .int .i64 n.q, .int .i64 n.w, .int .u64 n.lo, .int .u64 n.hi, .string n.nm]] w (.tuple #[.int .i64 (varS ns n).1, .int .i64 (varS ns n).2]) := by
 have HP : Hid (∀ wx, Below w.heap.size w wx → Rt 91 #[.pointer (some ⟨g, 0, none⟩), .agg #[.int .i64 n.op, .int .i64 n.s, .int .i64 n.a, .int .i64 n.b, .int .i64 n.c, .int .i64 n.p, .int .i64 n.q, .int .i64 n.w, .int .u64 n.lo, .int .u64 n.hi, .string n.nm]] wx (.bool true)) := fun wx hb => by rw [← hp]; exact parts_any (h.below hb) n
 obtain ⟨E, hE⟩ : ∃ E, E = varS ns n := ⟨_, rfl⟩
 have HS : Hid (∀ wx, Below w.heap.size w wx → Rt 93 #[.pointer (some ⟨g, 0, none⟩), .agg #[.int .i64 n.op, .int .i64 n.s, .int .i64 n.a, .int .i64 n.b, .int .i64 n.c, .int .i64 n.p, .int .i64 n.q, .int .i64 n.w, .int .u64 n.lo, .int .u64 n.hi, .string n.nm]] wx (.tuple #[.int .i64 E.1, .int .i64 E.2])) := fun wx hb => by rw [hE]; exact vrs_any (h.below hb) hf
 rw [← hE]
 have z1 : (n.op == 1) = false := by simp [ho]
 have z2 : (n.op == 2) = true := by simp [ho]
 clear h hp hE ho hf
 go_enter Tryz.func43, Tryz.ntmps43
 go_wp2_with fail
 refine (HP.out _ (by go_grown)).mono ?_
 rintro e wz ⟨rfl, hb⟩
 have hB : Below w.heap.size w wz := Below.trans (by go_grown) (hb.mono (by simp))
 have hc := box_cells hb
 have k0 := hc 0 _ rfl
 have k1 := hc 1 _ rfl
 have k2 := hc 2 _ rfl
 have k3 := hc 3 _ rfl
 have k4 := hc 4 _ rfl
 have k5 := hc 5 _ rfl
 have k6 := hc 6 _ rfl
 have k7 := hc 7 _ rfl
 have k8 := hc 8 _ rfl
 have k9 := hc 9 _ rfl
 have k10 := hc 10 _ rfl
 clear hb hc
 go_wp2_with fail
 refine (HS.out _ hB).mono ?_
 rintro e w2 ⟨rfl, hb⟩
 have hB2 : Below w.heap.size w w2 := hB.trans (hb.mono hB.size)
 clear hb
 go_wp2_with fail
 refine bodyPost_ret (v := .tuple #[.int .i64 E.1, .int .i64 E.2]) (by simp [results, Tryz.results43, go_sem]) rfl ?_
 exact ⟨rfl, hB2⟩
theorem srt_else {w : World} {B g mi mv mo : Nat} {v : Value} {ns : List Nd} (h : Gr w B g mi mv v mo ns) {n : Nd} (hp : prt ns.length n = true) (h1 : ¬ n.op = 1) (h2 : ¬ n.op = 2) :
  Rt 43 #[.pointer (some ⟨g, 0, none⟩), .agg #[.int .i64 n.op, .int .i64 n.s, .int .i64 n.a, .int .i64 n.b, .int .i64 n.c, .int .i64 n.p, .int .i64 n.q, .int .i64 n.w, .int .u64 n.lo, .int .u64 n.hi, .string n.nm]] w (.tuple #[.int .i64 (srtF n.op n.p n.q (oss ns n)).1, .int .i64 (srtF n.op n.p n.q (oss ns n)).2]) := by
 have HP : Hid (∀ wx, Below w.heap.size w wx → Rt 91 #[.pointer (some ⟨g, 0, none⟩), .agg #[.int .i64 n.op, .int .i64 n.s, .int .i64 n.a, .int .i64 n.b, .int .i64 n.c, .int .i64 n.p, .int .i64 n.q, .int .i64 n.w, .int .u64 n.lo, .int .u64 n.hi, .string n.nm]] wx (.bool true)) := fun wx hb => by rw [← hp]; exact parts_any (h.below hb) n
 have hk0 : 0 ≤ ari n.op := by
  apply Classical.byContradiction; intro hq
  rw [prt_ari (by omega)] at hp; cases hp
 have hk1 : 1 ≤ ari n.op := by
  unfold ari at hk0 ⊢
  split
  ·rw [if_pos (by assumption)] at hk0; omega
  ·rw [if_neg (by omega)]
   split <;> (try split) <;> omega
 have hk3 := ari_le n.op
 have hol : (oss ns n).length = (ari n.op).toNat := oss_len (k := (ari n.op).toNat) (by omega) (by omega)
 have HNE : Hid (oss ns n ≠ []) := fun e => by rw [e] at hol; simp at hol; omega
 have HL3 : Hid ((oss ns n).length ≤ 3) := by unfold Hid; omega
 have HQ : Hid (∀ wx, Below w.heap.size w wx → Calls Tryz.prog 94 #[.pointer (some ⟨g, 0, none⟩), .agg #[.int .i64 n.op, .int .i64 n.s, .int .i64 n.a, .int .i64 n.b, .int .i64 n.c, .int .i64 n.p, .int .i64 n.q, .int .i64 n.w, .int .u64 n.lo, .int .u64 n.hi, .string n.nm]] wx fun e w' => ∃ u, e = .returned u ∧ Is' w' wx.heap.size u (oss ns n) ∧ Below wx.heap.size wx w') := fun wx hb => osr_any (h.below hb) hp
 obtain ⟨O, hO⟩ : ∃ O, O = oss ns n := ⟨_, rfl⟩
 obtain ⟨E, hE⟩ : ∃ E, E = srtF n.op n.p n.q O := ⟨_, rfl⟩
 rw [← hO] at HNE HL3 HQ ⊢
 have HS : Hid (∀ wx (r cap : Nat), Li wx r 0 O → O.length ≤ cap → Rt 37 #[.int .i64 n.op, .int .i64 n.p, .int .i64 n.q, .slice (some ⟨r, 0, none⟩) O.length cap] wx (.tuple #[.int .i64 E.1, .int .i64 E.2])) := fun wx r cap hl hc => by rw [hE]; exact sort_any hl (by have := HL3.out; omega) hc
 rw [← hE]
 have z1 : (n.op == 1) = false := by simp [h1]
 have z2 : (n.op == 2) = false := by simp [h2]
 clear h hp hE h1 h2 hk0 hk1 hk3 hol hO
 go_enter Tryz.func43, Tryz.ntmps43
 go_wp2_with fail
 refine (HP.out _ (by go_grown)).mono ?_
 rintro e wz ⟨rfl, hb⟩
 have hB : Below w.heap.size w wz := Below.trans (by go_grown) (hb.mono (by simp))
 have hc := box_cells hb
 have k0 := hc 0 _ rfl
 have k1 := hc 1 _ rfl
 have k2 := hc 2 _ rfl
 have k3 := hc 3 _ rfl
 have k4 := hc 4 _ rfl
 have k5 := hc 5 _ rfl
 have k6 := hc 6 _ rfl
 have k7 := hc 7 _ rfl
 have k8 := hc 8 _ rfl
 have k9 := hc 9 _ rfl
 have k10 := hc 10 _ rfl
 clear hb hc
 go_wp2_with fail
 go_region_held3 (fun x => x.cell? ⟨w.heap.size, 0, none⟩ = some (.int .i64 n.op) ∧ x.cell? ⟨w.heap.size, 1, none⟩ = some (.int .i64 n.s) ∧ x.cell? ⟨w.heap.size, 2, none⟩ = some (.int .i64 n.a) ∧ x.cell? ⟨w.heap.size, 3, none⟩ = some (.int .i64 n.b) ∧ x.cell? ⟨w.heap.size, 4, none⟩ = some (.int .i64 n.c) ∧ x.cell? ⟨w.heap.size, 5, none⟩ = some (.int .i64 n.p) ∧ x.cell? ⟨w.heap.size, 6, none⟩ = some (.int .i64 n.q) ∧ x.cell? ⟨w.heap.size, 7, none⟩ = some (.int .i64 n.w) ∧ x.cell? ⟨w.heap.size, 8, none⟩ = some (.int .u64 n.lo) ∧ x.cell? ⟨w.heap.size, 9, none⟩ = some (.int .u64 n.hi) ∧ x.cell? ⟨w.heap.size, 10, none⟩ = some (.string n.nm) ∧ Below w.heap.size w x)
  ((first | (obtain ⟨q0, q1, q2, q3, q4, q5, q6, q7, q8, q9, q10, qB⟩ := ‹_ ∧ _ ∧ _ ∧ _ ∧ _ ∧ _ ∧ _ ∧ _ ∧ _ ∧ _ ∧ _ ∧ _›; with_reducible exact ⟨keep_cell hb q0, keep_cell hb q1, keep_cell hb q2, keep_cell hb q3, keep_cell hb q4, keep_cell hb q5, keep_cell hb q6, keep_cell hb q7, keep_cell hb q8, keep_cell hb q9, keep_cell hb q10, below_step qB hb⟩) | (refine ⟨?_, ?_, ?_, ?_, ?_, ?_, ?_, ?_, ?_, ?_, ?_, hB.drew⟩ <;> simp [go_sem, k0, k1, k2, k3, k4, k5, k6, k7, k8, k9, k10])))
  ((first | (go_at_call 94; refine (HQ.out _ (by first | exact hB.drew | (obtain ⟨-, -, -, -, -, -, -, -, -, -, -, qB⟩ := ‹_ ∧ _ ∧ _ ∧ _ ∧ _ ∧ _ ∧ _ ∧ _ ∧ _ ∧ _ ∧ _ ∧ _›; exact qB))).mono ?_; rintro e w1 ⟨u, rfl, hI, hb⟩; obtain ⟨r, cap, rfl, -, hcap, hLi⟩ := hI.li HNE.out) | (go_at_call 37; refine (HS.out _ _ _ (by assumption) (by assumption)).mono ?_; rintro e w1 ⟨rfl, hb⟩)))
 obtain ⟨-, -, -, -, -, -, -, -, -, -, -, hBq⟩ := ‹_ ∧ _ ∧ _ ∧ _ ∧ _ ∧ _ ∧ _ ∧ _ ∧ _ ∧ _ ∧ _ ∧ _›
 go_wp2_with fail
 refine bodyPost_ret (v := .tuple #[.int .i64 E.1, .int .i64 E.2]) (by simp [results, Tryz.results43, go_sem]) rfl ?_
 exact ⟨rfl, hBq⟩
theorem sortOf_any {w : World} {B g mi mv mo : Nat} {v : Value} {ns : List Nd} (h : Gr w B g mi mv v mo ns) {n : Nd} (hf : Fi n) :
  Rt 43 #[.pointer (some ⟨g, 0, none⟩), .agg #[.int .i64 n.op, .int .i64 n.s, .int .i64 n.a, .int .i64 n.b, .int .i64 n.c, .int .i64 n.p, .int .i64 n.q, .int .i64 n.w, .int .u64 n.lo, .int .u64 n.hi, .string n.nm]] w (.tuple #[.int .i64 (srtOf ns n).1, .int .i64 (srtOf ns n).2]) := by
 cases hp : prt ns.length n
 ·have e : srtOf ns n = (0, 32) := by unfold srtOf; rw [if_pos hp]
  rw [e]
  exact srt_no h hp
 ·by_cases h1 : n.op = 1
  ·have e : srtOf ns n = cstS n := by unfold srtOf; rw [if_neg (by simp [hp]), if_pos h1]; rfl
   rw [e]
   exact srt_one h hf hp h1
  ·by_cases h2 : n.op = 2
   ·have e : srtOf ns n = varS ns n := by unfold srtOf; rw [if_neg (by simp [hp]), if_neg h1, if_pos h2]; rfl
    rw [e]
    exact srt_two h hf hp h2
   ·have e : srtOf ns n = srtF n.op n.p n.q (oss ns n) := by unfold srtOf; rw [if_neg (by simp [hp]), if_neg h1, if_neg h2]
    rw [e]
    exact srt_else h hp h1 h2
open Go.RowKit
def vsF (ns : List Nd) : List Int := (ns.mapIdx fun i n => (n, i)).filterMap fun x => if x.1.op = 2 then some ((x.2 : Int) + 1) else none
theorem vsF_snoc {ns : List Nd} {k : Nat} {n : Nd} (h : ns[k]? = some n) : vsF (ns.take (k + 1)) = vsF (ns.take k) ++ (if n.op = 2 then [(k : Int) + 1] else []) := by
 have hk : k < ns.length := (List.getElem?_eq_some_iff.1 h).1
 rw [List.take_add_one, h]
 unfold vsF
 rw [show (some n).toList = [n] from rfl, List.mapIdx_append, List.filterMap_append]
 congr 1
 by_cases h2 : n.op = 2 <;> simp [h2, Nat.min_eq_left (Nat.le_of_lt hk)]
theorem vsF_len (ns : List Nd) : (vsF ns).length ≤ ns.length := by
 unfold vsF
 refine Nat.le_trans (List.length_filterMap_le _ _) ?_
 simp
theorem vars_any {w : World} {B g mi mv mo : Nat} {v : Value} {ns : List Nd} (h : Gr w B g mi mv v mo ns) (hne : 0 < ns.length) :
  Calls Tryz.prog 34 #[.pointer (some ⟨g, 0, none⟩)] w fun e w' => ∃ u, e = .returned u ∧ Is' w' w.heap.size u (vsF ns) ∧ Below w.heap.size w w' := by
 have hlen := h.len
 have c1 := h.c1
 have hg := h.lt
 obtain ⟨r, cap, rfl, hBr, hrl, hc⟩ := row_all h.row hne
 have HC : Hid _ := hc
 obtain ⟨t0, ht0, hz0, hz1, hz2⟩ := info_parts info3
 have HI0 : Hid (Tryz.prog.info? 3 = some t0 ∧ t0.zero = some (.int .i64 0) ∧ t0.size = 1 ∧ t0.bytes = 8) := ⟨ht0, hz0, hz1, hz2⟩
 obtain ⟨N, hN⟩ : ∃ N, N = ns.length := ⟨_, rfl⟩
 have HN : Hid _ := hN
 rw [← hN] at c1 hlen hne
 clear h hc ht0 hz0 hz1 hz2 hBr hN
 go_enter Tryz.func34, Tryz.ntmps34
 go_wp2_with fail
 go_loopw [3, 11] (fun v i wr => ∃ k : Nat, k ≤ N ∧ i = .int .i64 (k : Int) ∧ Is' wr w.heap.size v (vsF (ns.take k)) ∧ Below w.heap.size w wr) (fun v i wr => N - (intOf i).toNat)
 case atStart =>
  exact ⟨0, Nat.zero_le _, rfl, World.ownsRow_nil _ _ _ _, Below.refl _ _⟩
 case round =>
  obtain ⟨k, hk, rfl, hI, hbl⟩ := hrel
  have HI : Hid _ := hI
  clear hI
  by_cases hlt : k < N
  ·obtain ⟨n, hn⟩ : ∃ n, ns[k]? = some n := ⟨_, List.getElem?_eq_getElem (by rw [← HN.out]; exact hlt)⟩
   have hc := HC.out k n hn
   have d0 : wr.cell? ⟨r, k * 11, none⟩ = some (.int .i64 n.op) := bel_cell hbl hrl (hc 0 _ rfl)
   have d1 : wr.cell? ⟨r, k * 11 + 1, none⟩ = some (.int .i64 n.s) := bel_cell hbl hrl (hc 1 _ rfl)
   have d2 : wr.cell? ⟨r, k * 11 + 2, none⟩ = some (.int .i64 n.a) := bel_cell hbl hrl (hc 2 _ rfl)
   have d3 : wr.cell? ⟨r, k * 11 + 3, none⟩ = some (.int .i64 n.b) := bel_cell hbl hrl (hc 3 _ rfl)
   have d4 : wr.cell? ⟨r, k * 11 + 4, none⟩ = some (.int .i64 n.c) := bel_cell hbl hrl (hc 4 _ rfl)
   have d5 : wr.cell? ⟨r, k * 11 + 5, none⟩ = some (.int .i64 n.p) := bel_cell hbl hrl (hc 5 _ rfl)
   have d6 : wr.cell? ⟨r, k * 11 + 6, none⟩ = some (.int .i64 n.q) := bel_cell hbl hrl (hc 6 _ rfl)
   have d7 : wr.cell? ⟨r, k * 11 + 7, none⟩ = some (.int .i64 n.w) := bel_cell hbl hrl (hc 7 _ rfl)
   have d8 : wr.cell? ⟨r, k * 11 + 8, none⟩ = some (.int .u64 n.lo) := bel_cell hbl hrl (hc 8 _ rfl)
   have d9 : wr.cell? ⟨r, k * 11 + 9, none⟩ = some (.int .u64 n.hi) := bel_cell hbl hrl (hc 9 _ rfl)
   have d10 : wr.cell? ⟨r, k * 11 + 10, none⟩ = some (.string n.nm) := bel_cell hbl hrl (hc 10 _ rfl)
   have hrl' : r < wr.heap.size := Nat.lt_of_lt_of_le hrl hbl.size
   have HS := vsF_snoc hn
   have HLN : Hid ((vsF (ns.take k)).length ≤ 5000) := by unfold Hid; have := vsF_len (ns.take k); simp at this; omega
   clear hc hn
   by_cases h2 : n.op = 2
   ·rw [if_pos h2] at HS
    have HSS : Hid _ := HS
    have z2 : (n.op == 2) = true := by simp [h2]
    have e1 : wrap64 ((k : Int) + 1) = (k : Int) + 1 := by unfold wrap64; omega
    clear h2 HS
    go_wp2_with (at_builtin; refine wpList_append_own_at _ rfl _ _ 24 rfl w.heap.size 3 t0 (.int .i64 0) 1 8 under45 HI0.out.1 HI0.out.2.1 HI0.out.2.2.1 HI0.out.2.2.2 rfl (by decide) _ _ _ rfl (row_kept (row_kept HI.out (fun _ hq => heap_alloc_old _ _ hq)) (fun _ hq => heap_alloc_old _ _ hq)) _ 1 1 [.int .i64 ((k : Int) + 1)] rfl rfl (by intro j u hj; match j, hj with | 0, hj => simp at hj; subst hj; simp [Addr.add]) (ones [(k : Int) + 1]) (by have := HLN.out; unfold maxLen; omega) (by have := HLN.out; omega) (by have := hbl.size; simp; omega) ?_; intro v1 w1 hown hgrow hnil hat)
    have hrow : ∀ q, u3.ownBlock = some q → w.heap.size ≤ q := fun q hq => (HI.out.lt q hq).1
    have HI1 : Hid (Is' w1 w.heap.size v1 (vsF (ns.take (k + 1)))) := by
     unfold Hid Is'
     rw [HSS.out, List.map_append, List.length_append]
     exact hown
    have hb1 : Below w.heap.size w w1 := low_grown (hbl.alloc hbl.size _) (by have := hbl.size; simp; omega) hgrow hrow
    clear hown hgrow hnil hat hrow HI
    go_wp2_with fail
    exact ⟨⟨k + 1, by omega, by go_num, HI1.out, hb1⟩, by simp [intOf]; omega⟩
   ·rw [if_neg h2, List.append_nil] at HS
    have HSS : Hid _ := HS
    have z2 : (n.op == 2) = false := by simp [h2]
    clear h2 HS
    go_wp2_with fail
    exact ⟨⟨k + 1, by omega, by go_num, by rw [HSS.out]; exact row_kept HI.out (fun _ hq => heap_alloc_old _ _ hq), hbl.alloc hbl.size _⟩, by simp [intOf]; omega⟩
  ·obtain rfl : k = N := by omega
   have HF : Hid (Is' wr w.heap.size u3 (vsF ns)) := by have h := HI.out; rw [HN.out, List.take_length] at h; exact h
   clear HI
   go_wp2_with fail
   go_ret
   exact ⟨_, rfl, HF.out, hbl⟩
def N1 : Nd := ⟨2, 4, 0, 0, 0, 0, 0, 0, 0, 0, ⟨#[120]⟩⟩
def N2 : Nd := ⟨18, 4, 1, 1, 0, 0, 0, 0, 0, 0, ⟨#[]⟩⟩
def N3 : Nd := ⟨38, 8, 2, 2, 0, 0, 0, 0, 0, 0, ⟨#[]⟩⟩
def acc3 (k : Nat) : List Int := if k = 3 then [] else if k = 2 then [3] else if k = 1 then [3, 2] else [3, 2, 1]
def inb (k j : Nat) : Bool := if k = 3 then decide (j = 3) else if k = 2 then !decide (j = 1) else true
theorem row_sets {x y : World} {b : Nat} {e : TypeId} {sz : Nat} {v : Value} {n : Nat} {xs : List Value} (h : x.ownsRow b e sz v n xs) (hk : ∀ q, b ≤ q → q < x.heap.size → y.heap[q]? = x.heap[q]?) : y.ownsRow b e sz v n xs := by
 refine ⟨h.1, ?_⟩
 rcases h.2 with hn | ⟨g, cap, cur, rfl, hb, hgg, rest⟩
 ·exact .inl hn
 ·exact .inr ⟨g, cap, cur, rfl, hb, by rw [hk g hb (Array.getElem?_eq_some_iff.1 hgg).1]; exact hgg, rest⟩
end Go.Proofs.YtejljdbkocnhlaaGreat
namespace Go.Proofs.YtejljdbkocnhlaaGreat
set_option maxHeartbeats 12800000
set_option maxRecDepth 100000
set_option linter.unusedSimpArgs false
set_option linter.unusedVariables false
open Go
section
variable {P : Program} {ops : Array Oper} {Q : Exit → Act → World → Prop}
theorem count_set {l : Array Bool} {i : Nat} (h : l.getD i true = false) : (l.setIfInBounds i true).toList.count false + 1 = l.toList.count false := by
 obtain ⟨l⟩ := l
 simp only [List.setIfInBounds_toArray]
 have h' : l[i]? = some false := by
  simp at h
  cases e : l[i]? with
  | none => simp [e] at h
  | some x => simp [e] at h; rw [h]
 clear h
 induction l generalizing i with
 | nil => simp at h'
 | cons x l ih =>
  cases i with
  | zero => simp at h'; subst h'; simp
  | succ i => simp at h'; have := ih h'; simp [List.count_cons] at *; omega
theorem ready_nil {md : Region.Mode} {l : Array Bool} (hc : l.toList.count false = 0) : Region.ready md ops l = [] := by
 rw [List.eq_nil_iff_forall_not_mem]
 intro i hi
 obtain ⟨h0, -⟩ := mem_ready.1 hi
 have := count_set h0
 omega
theorem wpAny_inv {md : Region.Mode} (I : Array Bool → Act → World → Prop)
  (hs : ∀ l a w i, l.size = ops.size → I l a w → i ∈ Region.ready md ops l → wpOp P ops Q i (fun a' w' => I (l.setIfInBounds i true) a' w') a w)
  (he : ∀ l a w, l.size = ops.size → I l a w → Region.ready md ops l = [] → Q .normal a w) :
  ∀ (fuel : Nat) (l : Array Bool) (a : Act) (w : World), l.size = ops.size → l.toList.count false ≤ fuel → I l a w → wpAny P md ops Q fuel l a w
 | 0, l, a, w, hz, hc, hI => ⟨ready_nil (by omega), he l a w hz hI (ready_nil (by omega))⟩
 | fuel + 1, l, a, w, hz, hc, hI =>
  ⟨he l a w hz hI, fun i hi => wpOp_mono (fun a' w' h => wpAny_inv I hs he fuel _ a' w' (by simp [hz])
   (by have := count_set (mem_ready.1 hi).1; omega) h) (hs l a w i hz hI hi)⟩
def Topo (ops : Array Oper) : Bool := (List.range ops.size).all fun i => match ops[i]? with
 | some o => o.after.all fun e => !Region.binds .any e || decide (e.on < i)
 | none => true
theorem all_of_ready {l : Array Bool} (ht : Topo ops = true) (hz : l.size = ops.size) (hr : Region.ready .any ops l = []) :
  ∀ i, i < ops.size → l.getD i false = true := by
 intro i
 induction i using Nat.strongRecOn with
 | _ i ih =>
  intro hi
  have hi' : i < l.size := by omega
  by_cases h : l.getD i true = false
  ·exfalso
   have hm : i ∈ Region.ready .any ops l := by
    rw [mem_ready]
    refine ⟨h, ops[i], by simp [hi], fun e he hb => ?_⟩
    have h1 := List.all_eq_true.1 ht i (List.mem_range.2 hi)
    simp only [Array.getElem?_eq_getElem hi] at h1
    have h2 := Array.all_eq_true_iff_forall_mem.1 h1 e he
    have h3 : e.on < i := by simpa [hb] using h2
    exact ih e.on h3 (by omega)
   rw [hr] at hm; cases hm
  ·simp [hi'] at h ⊢; exact h
structure Known (ops : Array Oper) (a0 : Act) (vs : List ((Nat → Nat) → Value)) (g : Nat → Nat) (L : Nat → Bool) (a : Act) : Prop where
 defers : a.defers = a0.defers
 size : a.tmps.size = a0.tmps.size
 old : ∀ t, (ops.all fun o => o.dst != some t) = true → a.tmps[t]? = a0.tmps[t]?
 new : ∀ (k : Nat) (o : Oper) (t : Tmp) (v : (Nat → Nat) → Value), ops.toList[k]? = some o → o.dst = some t → vs[k]? = some v → L k = true → a.tmps[t]? = some (v g)
structure KnownR (ops : Array Oper) (a0 : Act) (rs : List ((Nat → Nat) → Value)) (g : Nat → Nat) (L : Nat → Bool) (a : Act) : Prop where
 defers : a.defers = a0.defers
 size : a.tmps.size = a0.tmps.size
 old : ∀ t, (ops.all fun o => o.dst != some t) = true → a.tmps[t]? = a0.tmps[t]?
 new : ∀ (k j : Nat) (o : Oper) (t : Tmp) (v : (Nat → Nat) → Value), ops.toList[k]? = some o → o.dst = some t → rs[j]? = some v → (j + k + 1 == rs.length) = true → L k = true → a.tmps[t]? = some (v g)
def updB (L : Nat → Bool) (i : Nat) : Nat → Bool := fun k => if k = i then true else L k
def StepOK (P : Program) (ops : Array Oper) (a0 : Act) (S : (Nat → Nat) → (Nat → Bool) → World → Prop) (al : List Nat) (i : Nat) (o : Oper) (vs : List ((Nat → Nat) → Value)) (v : (Nat → Nat) → Value) : Prop :=
 ∀ g L a w, L i = false → (∀ e ∈ o.after, Region.binds .any e = true → L e.on = true) → S g L w → KnownR ops a0 vs g L a →
  if Region.wanted o (yielded ops a.tmps) = true then
   ∀ K : Act → World → Prop, Shut (∀ (g' : Nat → Nat) (w' : World), (∀ j, (j ≠ i ∨ al.contains i = false) → g' j = g j) → S g' (updB L i) w' → K (a.put o.dst (v g')) w') → o.wp P a w K (fun _ _ _ => False)
  else v g = undef ∧ S g (updB L i) w
def reaches (ops : Array Oper) : Nat → Nat → Nat → Bool
 | 0, k, i => k == i
 | f + 1, k, i => k == i || match ops[k]? with
  | some o => o.after.any fun e => Region.binds .any e && reaches ops f e.on i
  | none => false
theorem reaches_listed {L : Nat → Bool} (hc : ∀ k o, ops[k]? = some o → L k = true → ∀ e ∈ o.after, Region.binds .any e = true → L e.on = true) :
  ∀ f k i, reaches ops f k i = true → L k = true → L i = true
 | 0, k, i, h, hk => by simp [reaches] at h; rwa [← h]
 | f + 1, k, i, h, hk => by
  simp only [reaches, Bool.or_eq_true, beq_iff_eq] at h
  rcases h with h | h
  ·rwa [← h]
  ·cases ho : ops[k]? with
   | none => simp [ho] at h
   | some o =>
    simp only [ho] at h
    obtain ⟨e, he, hb⟩ := Array.any_eq_true'.1 h
    simp only [Bool.and_eq_true] at hb
    exact reaches_listed hc f e.on i hb.2 (hc k o ho hk e he hb.1)
def Dep (ops : Array Oper) (al : List Nat) (k : Nat) (v : (Nat → Nat) → Value) : Prop :=
 ∀ i ∈ al, (∀ g g' : Nat → Nat, (∀ j, j ≠ i → g' j = g j) → v g' = v g) ∨ reaches ops ops.size k i = true
def LinAll (P : Program) (ops : Array Oper) (Q : Exit → Act → World → Prop) (a0 : Act) (S : (Nat → Nat) → (Nat → Bool) → World → Prop) (al : List Nat) :
  Nat → List Oper → List ((Nat → Nat) → Value) → ((Nat → Nat) → Act) → Prop
 | n, [], _, acc => ∀ g w, S g (fun k => decide (k < n)) w → Q .normal (acc g) w
 | i, o :: os, vs, acc => ∃ v, StepOK P ops a0 S al i o vs v ∧ Dep ops al i v ∧ LinAll P ops Q a0 S al (i + 1) os (v :: vs) (fun g => (acc g).put o.dst (v g))
def Dsts (ops : Array Oper) (n : Nat) : Bool :=
 (ops.toList.filterMap (·.dst)).all (fun t => decide (t < n)) && decide (ops.toList.filterMap (·.dst)).Nodup
def putL (g : Nat → Nat) : List (Oper × ((Nat → Nat) → Value)) → Act → Act
 | [], a => a
 | p :: ps, a => putL g ps (a.put p.1.dst (p.2 g))
theorem put_size (a : Act) (d : Option Tmp) (v : Value) : (a.put d v).tmps.size = a.tmps.size := by cases d <;> simp [Act.put]
theorem put_defers (a : Act) (d : Option Tmp) (v : Value) : (a.put d v).defers = a.defers := by cases d <;> simp [Act.put]
theorem put_ne (a : Act) {d : Option Tmp} (v : Value) {t : Tmp} (h : d ≠ some t) : (a.put d v).tmps[t]? = a.tmps[t]? := by
 cases d with
 | none => rfl
 | some d => simp only [Act.put]; rw [Array.getElem?_setIfInBounds_ne (fun e => h (by rw [e]))]
theorem put_eq (a : Act) (v : Value) {t : Tmp} (h : t < a.tmps.size) : (a.put (some t) v).tmps[t]? = some v := by
 simp [Act.put, h]
theorem putL_defers (g : Nat → Nat) : ∀ ps a, (putL g ps a).defers = a.defers
 | [], _ => rfl
 | p :: ps, a => by rw [putL, putL_defers g ps, put_defers]
theorem putL_ne (g : Nat → Nat) {t : Tmp} : ∀ ps a, (∀ p ∈ ps, p.1.dst ≠ some t) → (putL g ps a).tmps[t]? = a.tmps[t]?
 | [], _, _ => rfl
 | p :: ps, a, h => by
  rw [putL, putL_ne g ps _ (fun q hq => h q (List.mem_cons_of_mem _ hq)), put_ne _ _ (h p (List.mem_cons_self ..))]
theorem putL_eq (g : Nat → Nat) {t : Tmp} {p : Oper × ((Nat → Nat) → Value)} : ∀ (ps : List (Oper × ((Nat → Nat) → Value))) (a : Act), (ps.filterMap (·.1.dst)).Nodup → p ∈ ps → p.1.dst = some t → t < a.tmps.size → (putL g ps a).tmps[t]? = some (p.2 g)
 | [], _, _, h, _, _ => by cases h
 | q :: ps, a, hn, h, ht, hl => by
  rw [putL]
  rcases List.mem_cons.1 h with rfl | h
  ·rw [putL_ne g ps]
   ·rw [ht]; exact put_eq a _ hl
   ·intro r hr e
    rw [List.filterMap_cons, ht] at hn
    simp only [List.nodup_cons] at hn
    exact hn.1 (List.mem_filterMap.2 ⟨r, hr, e⟩)
  ·refine putL_eq g ps _ ?_ h ht (by rw [put_size]; exact hl)
   rw [List.filterMap_cons] at hn
   split at hn
   ·exact hn
   ·exact (List.nodup_cons.1 hn).2
theorem dst_inj {l : List Oper} (hn : (l.filterMap (·.dst)).Nodup) {i k : Nat} {o o' : Oper} {t : Tmp} (hi : l[i]? = some o) (hk : l[k]? = some o') (ho : o.dst = some t) (ho' : o'.dst = some t) : i = k := by
 induction l generalizing i k with
 | nil => simp at hi
 | cons x l ih =>
  have hl : (l.filterMap (·.dst)).Nodup := by
   rw [List.filterMap_cons] at hn
   split at hn
   ·exact hn
   ·exact (List.nodup_cons.1 hn).2
  cases i with
  | zero =>
   cases k with
   | zero => rfl
   | succ k =>
    simp at hi hk
    subst hi
    rw [List.filterMap_cons, ho] at hn
    exact absurd (List.mem_filterMap.2 ⟨o', List.mem_of_getElem? hk, ho'⟩) (List.nodup_cons.1 hn).1
  | succ i =>
   cases k with
   | zero =>
    simp at hi hk
    subst hk
    rw [List.filterMap_cons, ho'] at hn
    exact absurd (List.mem_filterMap.2 ⟨o, List.mem_of_getElem? hi, ho⟩) (List.nodup_cons.1 hn).1
   | succ k => simp at hi hk; rw [ih hl hi hk]
variable {a0 : Act} {S : (Nat → Nat) → (Nat → Bool) → World → Prop} {al : List Nat}
theorem LinAll.spread : ∀ (os pre : List Oper) (vs : List ((Nat → Nat) → Value)) (acc : (Nat → Nat) → Act), ops.toList = pre ++ os → vs.length = pre.length →
  LinAll P ops Q a0 S al pre.length os vs acc →
  ∃ ws : List ((Nat → Nat) → Value), ws.length = os.length ∧
   (∀ k o v, os[k]? = some o → ws[k]? = some v → StepOK P ops a0 S al (pre.length + k) o ((ws.take k).reverse ++ vs) v ∧ Dep ops al (pre.length + k) v) ∧
   (∀ g w, S g (fun k => decide (k < ops.size)) w → Q .normal (putL g (os.zip ws) (acc g)) w)
 | [], pre, vs, acc, ho, hl, h => ⟨[], rfl, fun k o v hk => by simp at hk, fun g w hS => h g w (by
   have : ops.size = pre.length := by rw [← Array.length_toList, ho]; simp
   rw [← this]; exact hS)⟩
 | o :: os, pre, vs, acc, ho, hl, h => by
  obtain ⟨v, h1, h2, h3⟩ := h
  have hpre : (pre ++ [o]).length = pre.length + 1 := by simp
  obtain ⟨ws, hw, hstep, hend⟩ := LinAll.spread os (pre ++ [o]) (v :: vs) _ (by rw [ho]; simp) (by simp [hl]) (by rw [hpre]; exact h3)
  refine ⟨v :: ws, by simp [hw], fun k o' v' hk hv => ?_, fun g w hS => hend g w hS⟩
  cases k with
  | zero =>
   simp at hk hv
   subst hk hv
   exact ⟨by simpa using h1, h2⟩
  | succ k =>
   simp at hk hv
   have := hstep k o' v' hk hv
   rw [hpre] at this
   rw [show pre.length + (k + 1) = pre.length + 1 + k by omega, show (List.take (k + 1) (v :: ws)).reverse ++ vs = (ws.take k).reverse ++ v :: vs by simp]
   exact this
theorem Oper.wp_noPanic {o : Oper} {a : Act} {w : World} {K : Act → World → Prop} (h : o.wp P a w K (fun _ _ _ => False)) : o.wp P a w K Q := by
 unfold Oper.wp at *
 generalize (execOp a.eval o).run P w = r at *
 cases r with
 | ok n w' =>
  cases n <;> simp only [Oper.upon] at h ⊢
  case enter f args =>
   refine Calls.mono h fun e w'' he => ?_
   cases e with
   | returned u => exact he
   | panicked c => exact he.elim
   | outgrown => obtain ⟨_, _, h⟩ := he; exact h.elim
  all_goals exact h
 | halt x w' => cases x <;> simp only [Oper.upon] at h ⊢
theorem wp_region_lin {id : Nat} {w0 : World} (S : (Nat → Nat) → (Nat → Bool) → World → Prop) (al : List Nat) (g0 : Nat → Nat) (hm : P.follows .mixedOrders = true) (ht : Topo ops = true) (hd : Dsts ops a0.tmps.size = true)
  (hS : S g0 (fun _ => false) w0.drew) (h : LinAll P ops Q a0 S al 0 ops.toList [] (fun _ => a0)) : (Code.region id ops true).wp P Q a0 w0 := by
 obtain ⟨vs, hlen, hstep, hend⟩ := LinAll.spread (P := P) (ops := ops) (Q := Q) (a0 := a0) (S := S) (al := al) ops.toList [] [] _ rfl rfl h
 simp only [List.length_nil, Nat.zero_add, List.append_nil, Array.getElem?_toList] at hstep
 simp only [Array.length_toList] at hlen
 simp only [Dsts, Bool.and_eq_true, decide_eq_true_eq] at hd
 obtain ⟨hlt, hnd⟩ := hd
 have hlt' : ∀ (k : Nat) (o : Oper) (t : Tmp), ops[k]? = some o → o.dst = some t → t < a0.tmps.size := fun k o t hk ho => by
  have := List.all_eq_true.1 hlt t (List.mem_filterMap.2 ⟨o, by simpa using Array.mem_of_getElem? hk, ho⟩)
  simpa using this
 refine wp_region_any hm ?_
 refine wpAny_inv (fun l a w => ∃ g, S g (fun k => l.getD k false) w ∧ Known ops a0 vs g (fun k => l.getD k false) a ∧
  (∀ k o, ops[k]? = some o → l.getD k false = true → ∀ e ∈ o.after, Region.binds .any e = true → l.getD e.on false = true)) ?_ ?_ _ _ _ _ (by simp) (by simp) ?_
 ·rintro l a w i hz ⟨g, hSg, hK, hcl⟩ hi
  obtain ⟨hun, o, ho, haft⟩ := mem_ready.1 hi
  have hin : i < ops.size := (Array.getElem?_eq_some_iff.1 ho).1
  have hLi : l.getD i false = false := by
   have : i < l.size := by omega
   simp [this] at hun ⊢; exact hun
  obtain ⟨v, hv⟩ : ∃ v, vs[i]? = some v := ⟨vs[i]'(by omega), by simp [hlen, hin]⟩
  obtain ⟨hok, -⟩ := hstep i o v ho hv
  have hK' : KnownR ops a0 (vs.take i).reverse g (fun k => l.getD k false) a := ⟨hK.defers, hK.size, hK.old, fun k j o t v hk hot hv hj hL => hK.new k o t v hk hot (by
   have hlt : (vs.take i).length = i := by rw [List.length_take]; omega
   have hj' : j + k + 1 = (vs.take i).reverse.length := by simpa using hj
   rw [List.length_reverse, hlt] at hj'
   rw [List.getElem?_reverse (by rw [hlt]; omega), hlt, show i - 1 - j = k by omega, List.getElem?_take, if_pos (by omega)] at hv
   exact hv) hL⟩
  have hs := hok g (fun k => l.getD k false) a w hLi haft hSg hK'
  have hupd : updB (fun k => l.getD k false) i = fun k => (l.setIfInBounds i true).getD k false := by
   funext k
   simp only [updB]
   split
   ·rename_i e; subst e
    have : k < l.size := by omega
    simp [this]
   ·rename_i e
    rw [getD_set_ne false (Ne.symm e)]
  have fin : ∀ (g' : Nat → Nat) (w' : World), (∀ j, (j ≠ i ∨ al.contains i = false) → g' j = g j) → S g' (updB (fun k => l.getD k false) i) w' →
    ∃ g, S g (fun k => (l.setIfInBounds i true).getD k false) w' ∧ Known ops a0 vs g (fun k => (l.setIfInBounds i true).getD k false) (a.put o.dst (v g')) ∧
     (∀ k o, ops[k]? = some o → (l.setIfInBounds i true).getD k false = true → ∀ e ∈ o.after, Region.binds .any e = true → (l.setIfInBounds i true).getD e.on false = true) := by
   intro g' w' hg hS'
   rw [hupd] at hS'
   refine ⟨g', hS', ⟨by rw [put_defers, hK.defers], by rw [put_size, hK.size], fun t hall => ?_, fun k ok t vk hok'' hokt hvk hLk => ?_⟩, ?_⟩
   ·have := Array.all_eq_true_iff_forall_mem.1 hall o (Array.mem_of_getElem? ho)
    rw [put_ne _ _ (by simpa using this)]
    exact hK.old t hall
   ·have hok' : ops[k]? = some ok := by simpa using hok''
    by_cases hki : k = i
    ·subst hki
     rw [ho] at hok'; cases hok'
     rw [hv] at hvk; cases hvk
     rw [hokt]
     exact put_eq _ _ (by rw [hK.size]; exact hlt' _ _ _ ho hokt)
    ·have hLk' : l.getD k false = true := by
      have := getD_set_ne (listed := l) false (Ne.symm hki)
      rw [← this]; exact hLk
     rw [put_ne, hK.new k ok t vk (by simpa using hok') hokt hvk hLk']
     ·congr 1
      by_cases hal : al.contains i = false
      ·rw [show g' = g from funext fun j => hg j (Or.inr hal)]
      ·have hmem : i ∈ al := by simpa using hal
       rcases (hstep k ok vk hok' hvk).2 i hmem with h | h
       ·exact (h g g' fun j hj => hg j (Or.inl hj)).symm
       ·have := reaches_listed (L := fun k => l.getD k false) hcl _ _ _ h hLk'
        rw [hLi] at this; cases this
     ·intro e
      exact hki (dst_inj hnd (by simpa using hok') (by simpa using ho) hokt e)
   ·intro k ok hok' hLk e he hb
    by_cases hki : k = i
    ·subst hki
     rw [ho] at hok'; cases hok'
     exact getD_set_true (haft e he hb)
    ·have hLk' : l.getD k false = true := by
      have := getD_set_ne (listed := l) false (Ne.symm hki)
      rw [← this]; exact hLk
     exact getD_set_true (hcl k ok hok' hLk' e he hb)
  unfold wpOp
  simp only [ho]
  split
  ·rename_i hw
   rw [if_pos hw] at hs
   exact Or.inl (Oper.wp_noPanic (hs _ fun g' w' hg hS' => fin g' w' hg hS'))
  ·rename_i hw
   rw [if_neg hw] at hs
   obtain ⟨hu, hS'⟩ := hs
   have := fin g w (fun _ _ => rfl) hS'
   rw [hu] at this
   exact this
 ·rintro l a w hz ⟨g, hSg, hK, -⟩ hr
  have hall := all_of_ready ht hz hr
  have hL : (fun k => l.getD k false) = fun k => decide (k < ops.size) := by
   funext k
   by_cases hk : k < ops.size
   ·rw [hall k hk]; simp [hk]
   ·have : ¬ k < l.size := by omega
    simp [hk, this]
  rw [hL] at hSg hK
  have ha : a = putL g (ops.toList.zip vs) a0 := by
   have hd := putL_defers g (ops.toList.zip vs) a0
   have htm : a.tmps = (putL g (ops.toList.zip vs) a0).tmps := by
    refine Array.ext_getElem? fun t => ?_
    have hzl : (ops.toList.zip vs).filterMap (·.1.dst) = ops.toList.filterMap (·.dst) := by
     have : (ops.toList.zip vs).map (·.1) = ops.toList := by
      rw [List.map_fst_zip]; simp [hlen]
     conv => rhs; rw [← this]
     rw [List.filterMap_map]; rfl
    by_cases hex : ∃ (k : Nat) (o : Oper), ops[k]? = some o ∧ o.dst = some t
    ·obtain ⟨k, o, hk, hot⟩ := hex
     have hkn : k < ops.size := (Array.getElem?_eq_some_iff.1 hk).1
     obtain ⟨v, hv⟩ : ∃ v, vs[k]? = some v := ⟨vs[k]'(by omega), by simp [hlen, hkn]⟩
     rw [hK.new k o t v (by simpa using hk) hot hv (by simp [hkn])]
     rw [putL_eq g (p := (o, v)) _ _ (by rw [hzl]; exact hnd) ?_ hot (hlt' k o t hk hot)]
     refine List.mem_of_getElem? (i := k) ?_
     rw [List.getElem?_zip_eq_some]
     exact ⟨by simpa using hk, hv⟩
    ·have hno : ∀ o ∈ ops.toList, o.dst ≠ some t := fun o ho e => by
      obtain ⟨k, hk⟩ := List.getElem?_of_mem ho
      exact hex ⟨k, o, by simpa using hk, e⟩
     rw [putL_ne]
     ·refine hK.old t ?_
      rw [Array.all_eq_true_iff_forall_mem]
      intro o ho
      simpa using hno o (by simpa using ho)
     ·intro p hp
      exact hno p.1 (List.of_mem_zip hp).1
   have hdd := hK.defers
   cases a; cases hp : putL g (ops.toList.zip vs) a0
   rw [hp] at htm hd
   simp only at htm hd hdd
   rw [htm, hdd, ← hd]
  rw [ha]
  exact hend g w hSg
 ·have hrep : ∀ k, (Array.replicate ops.size false).getD k false = false := fun k => by
   simp only [Array.getD_eq_getD_getElem?, Array.getElem?_replicate]; split <;> rfl
  refine ⟨g0, ?_, ⟨rfl, rfl, fun _ _ => rfl, fun k o t v hk hot hv hL => ?_⟩, fun k o hk hL => ?_⟩
  ·rw [show (fun k => (Array.replicate ops.size false).getD k false) = fun _ => false from funext hrep]; exact hS
  ·rw [hrep k] at hL; cases hL
  ·rw [hrep k] at hL; cases hL
theorem LinAll.cons {i : Nat} {o : Oper} {os : List Oper} {vs : List ((Nat → Nat) → Value)} {acc : (Nat → Nat) → Act} (v : (Nat → Nat) → Value) (h1 : StepOK P ops a0 S al i o vs v) (h2 : Dep ops al i v) (h3 : LinAll P ops Q a0 S al (i + 1) os (v :: vs) (fun g => (acc g).put o.dst (v g))) :
 LinAll P ops Q a0 S al i (o :: os) vs acc := ⟨v, h1, h2, h3⟩
theorem LinAll.cons0 {i : Nat} {o : Oper} {os : List Oper} {vs : List ((Nat → Nat) → Value)} {acc : (Nat → Nat) → Act} {v : (Nat → Nat) → Value} (h1 : StepOK P ops a0 S [] i o vs v) (h3 : LinAll P ops Q a0 S [] (i + 1) os (v :: vs) (fun g => (acc g).put o.dst (v g))) :
 LinAll P ops Q a0 S [] i (o :: os) vs acc := ⟨v, h1, fun _ h => (by cases h), h3⟩
theorem LinAll.nil {n : Nat} {vs : List ((Nat → Nat) → Value)} {acc : (Nat → Nat) → Act} (h : ∀ g w, S g (fun k => decide (k < n)) w → Q .normal (acc g) w) : LinAll P ops Q a0 S al n [] vs acc := h
theorem wp_named {c : Code} {a : Act} {w : World} (h : ∀ b, a = b → c.wp P Q b w) : c.wp P Q a w := h a rfl
theorem eval_tmp {a : Act} {t : Tmp} {v : Value} (h : a.tmps[t]? = some v) : a.eval (.tmp t) = v := by simp [Act.eval, h]
theorem wanted_at {o k : Oper} {tm : Array Value} {j : Nat} {b c r : Bool} {d : Tmp} (hg : o.guard = some (j, b)) (ho' : ops.toList[j]? = some k) (hd : k.dst = some d) (ht : tm[d]? = some (.bool c)) (hbc : (c == b) = r) : Region.wanted o (yielded ops tm) = r := by
 have ho : ops[j]? = some k := by simpa using ho'
 unfold Region.wanted yielded
 simp only [hg, ho, Option.bind_some, hd, ht]
 rw [← hbc]; cases c <;> cases b <;> rfl
theorem wanted_all {o : Oper} {tm : Array Value} (hg : o.guard = none) : Region.wanted o (yielded ops tm) = true := by
 unfold Region.wanted; simp only [hg]
theorem go_in {c : Bool} {A B : Prop} (h : c = true) (ha : A) : if c = true then A else B := by rw [if_pos h]; exact ha
theorem go_out {c : Bool} {A B : Prop} (h : c = false) (hb : B) : if c = true then A else B := by rw [if_neg (by rw [h]; decide)]; exact hb
end
end Go.Proofs.YtejljdbkocnhlaaGreat
namespace Go.Proofs.YtejljdbkocnhlaaGreat
set_option maxHeartbeats 12800000
set_option maxRecDepth 100000
set_option linter.unusedSimpArgs false
set_option linter.unusedVariables false
open Go Go.RowKit
def At (x : World) (b : Nat) (cs : List Value) : Prop := ∀ k v, cs[k]? = some v → x.cell? ⟨b, k, none⟩ = some v
theorem At.below {x x' : World} {b : Nat} {cs : List Value} (h : At x b cs) (hb : b < x.heap.size) (hx : Below x.heap.size x x') : At x' b cs :=
 fun k v hk => by rw [hx.cell (p := ⟨b, k, none⟩) hb]; exact h k v hk
theorem At.three {x : World} {b : Nat} {c d e : Value} (h0 : x.cell? ⟨b, 0, none⟩ = some c) (h1 : x.cell? ⟨b, 1, none⟩ = some d) (h2 : x.cell? ⟨b, 2, none⟩ = some e) : At x b [c, d, e] := by
 intro k v hk
 match k with
 | 0 => simp at hk; rw [← hk]; exact h0
 | 1 => simp at hk; rw [← hk]; exact h1
 | 2 => simp at hk; rw [← hk]; exact h2
 | k + 3 => simp at hk
theorem At.get3 {x : World} {b : Nat} {c d e : Value} (h : At x b [c, d, e]) : x.cell? ⟨b, 0, none⟩ = some c ∧ x.cell? ⟨b, 1, none⟩ = some d ∧ x.cell? ⟨b, 2, none⟩ = some e :=
 ⟨h 0 c rfl, h 1 d rfl, h 2 e rfl⟩
structure SS (w0 : World) (B : Nat) (own : List (Nat × List Value)) (pend : List (Nat × Nat × List Value)) (g : Nat → Nat) (L : Nat → Bool) (x : World) : Prop where
 below : Below w0.heap.size w0 x
 le : w0.heap.size ≤ B
 size : B ≤ x.heap.size
 own : ∀ p ∈ own, p.1 < B ∧ At x p.1 p.2
 made : ∀ q ∈ pend, L q.1 = true → B ≤ g q.1 ∧ g q.1 < x.heap.size ∧ (∀ o, x.frozen? ⟨g q.1, o, none⟩ = false) ∧ (∀ k, k < q.2.2.length → (x.cell? ⟨g q.1, k, none⟩).isSome = true)
 laid : ∀ q ∈ pend, L q.2.1 = true → L q.1 = true ∧ At x (g q.1) q.2.2
 apart : ∀ q ∈ pend, ∀ r ∈ pend, q.1 ≠ r.1 → L q.1 = true → L r.1 = true → g q.1 ≠ g r.1
variable {w0 x x' : World} {B i : Nat} {own : List (Nat × List Value)} {pend : List (Nat × Nat × List Value)} {g : Nat → Nat} {L : Nat → Bool}
theorem updB_ne {k : Nat} (h : k ≠ i) : updB L i k = L k := by simp [updB, h]
theorem updB_eq : updB L i i = true := by simp [updB]
theorem SS.ext (h : SS w0 B own pend g L x) (hx : Below x.heap.size x x') (hi : (pend.all fun q => q.1 != i && q.2.1 != i) = true) : SS w0 B own pend g (updB L i) x' := by
 have hi' : ∀ q ∈ pend, q.1 ≠ i ∧ q.2.1 ≠ i := fun q hq => by simpa using List.all_eq_true.1 hi q hq
 refine ⟨h.below.trans (hx.mono h.below.size), h.le, Nat.le_trans h.size hx.size, fun p hp => ?_, fun q hq hL => ?_, fun q hq hL => ?_, fun q hq r hr hne hL hL' => ?_⟩
 ·obtain ⟨h1, h2⟩ := h.own p hp
  exact ⟨h1, h2.below (Nat.lt_of_lt_of_le h1 h.size) hx⟩
 ·rw [updB_ne (hi' q hq).1] at hL
  obtain ⟨h1, h2, h3, h4⟩ := h.made q hq hL
  exact ⟨h1, Nat.lt_of_lt_of_le h2 hx.size, fun o => by rw [hx.frozen (p := ⟨_, o, none⟩) h2]; exact h3 o, fun k hk => by rw [hx.cell (p := ⟨_, k, none⟩) h2]; exact h4 k hk⟩
 ·rw [updB_ne (hi' q hq).2] at hL
  obtain ⟨h1, h2⟩ := h.laid q hq hL
  exact ⟨by rw [updB_ne (hi' q hq).1]; exact h1, h2.below (h.made q hq h1).2.1 hx⟩
 ·rw [updB_ne (hi' q hq).1] at hL
  rw [updB_ne (hi' r hr).1] at hL'
  exact h.apart q hq r hr hne hL hL'
theorem SS.same (h : SS w0 B own pend g L x) (hi : (pend.all fun q => q.1 != i && q.2.1 != i) = true) : SS w0 B own pend g (updB L i) x := h.ext (Below.refl _ _) hi
def updG (g : Nat → Nat) (i b : Nat) : Nat → Nat := fun k => if k = i then b else g k
theorem updG_eq (b : Nat) : updG g i b i = b := by simp [updG]
theorem updG_ne {k : Nat} (b : Nat) (h : k ≠ i) : updG g i b k = g k := by simp [updG, h]
theorem SS.alloc {c : Array Value} {ty : TypeId} (h : SS w0 B own pend g L x) (hL : L i = false) (hi : (pend.all fun q => q.2.1 != i && decide (q.2.2.length ≤ c.size)) = true) :
  SS w0 B own pend (updG g i x.heap.size) (updB L i) (x.alloc (.cells c ty)) := by
 have hi' : ∀ q ∈ pend, q.2.1 ≠ i ∧ q.2.2.length ≤ c.size := fun q hq => by simpa using List.all_eq_true.1 hi q hq
 have hx : Below x.heap.size x (x.alloc (.cells c ty)) := (Below.refl _ _).alloc (Nat.le_refl _) _
 refine ⟨h.below.trans (hx.mono h.below.size), h.le, Nat.le_trans h.size hx.size, fun p hp => ?_, fun q hq hLq => ?_, fun q hq hLq => ?_, fun q hq r hr hne hLq hLr => ?_⟩
 ·obtain ⟨h1, h2⟩ := h.own p hp
  exact ⟨h1, h2.below (Nat.lt_of_lt_of_le h1 h.size) hx⟩
 ·by_cases e : q.1 = i
  ·rw [e, updG_eq]
   refine ⟨h.size, by simp, fun o => by simp, fun k hk => ?_⟩
   have hk' := Nat.lt_of_lt_of_le hk (hi' q hq).2
   simp [hk']
  ·rw [updB_ne e] at hLq
   rw [updG_ne _ e]
   obtain ⟨h1, h2, h3, h4⟩ := h.made q hq hLq
   exact ⟨h1, Nat.lt_of_lt_of_le h2 hx.size, fun o => by rw [hx.frozen (p := ⟨_, o, none⟩) h2]; exact h3 o, fun k hk => by rw [hx.cell (p := ⟨_, k, none⟩) h2]; exact h4 k hk⟩
 ·rw [updB_ne (hi' q hq).1] at hLq
  obtain ⟨h1, h2⟩ := h.laid q hq hLq
  have e : q.1 ≠ i := fun e => by rw [e, hL] at h1; cases h1
  rw [updB_ne e, updG_ne _ e]
  exact ⟨h1, h2.below (h.made q hq h1).2.1 hx⟩
 ·by_cases e : q.1 = i
  ·have e' : r.1 ≠ i := fun e' => hne (e.trans e'.symm)
   rw [updB_ne e'] at hLr
   rw [e, updG_eq, updG_ne _ e']
   exact Nat.ne_of_gt (h.made r hr hLr).2.1
  ·rw [updB_ne e] at hLq
   by_cases e' : r.1 = i
   ·rw [e', updG_eq, updG_ne _ e]
    exact Nat.ne_of_lt (h.made q hq hLq).2.1
   ·rw [updB_ne e'] at hLr
    rw [updG_ne _ e, updG_ne _ e']
    exact h.apart q hq r hr hne hLq hLr
theorem setCells_size (b : Nat) : ∀ (vs : List Value) (o : Nat) (w : World), (w.setCells b o vs).heap.size = w.heap.size
 | [], _, _ => rfl
 | v :: r, o, w => by rw [World.setCells, setCells_size b r, World.size_setCell]
theorem setCells_below {B b : Nat} {w0 : World} : ∀ (vs : List Value) (o : Nat) (w : World), Below B w0 w → B ≤ b → Below B w0 (w.setCells b o vs)
 | [], _, _, h, _ => h
 | v :: r, o, w, h, hb => by rw [World.setCells]; exact setCells_below r (o + 1) _ (h.setCell hb v) hb
theorem SS.store {k : Nat} {cs : List Value} (h : SS w0 B own pend g L x) (hL : L k = true) (hq : (k, i, cs) ∈ pend) (hi : (pend.all fun q => q.1 != i && (q.2.1 != i || q.1 == k)) = true)
  (hone : ∀ q ∈ pend, q.1 = k → q.2.2 = cs) : SS w0 B own pend g (updB L i) (x.setCells (g k) 0 cs) := by
 have hi' : ∀ q ∈ pend, q.1 ≠ i ∧ (q.2.1 = i → q.1 = k) := fun q hq => by
  have := List.all_eq_true.1 hi q hq
  simp at this
  exact ⟨this.1, fun e => by rcases this.2 with h | h; exact absurd e h; exact h⟩
 obtain ⟨m1, m2, m3, m4⟩ := h.made _ hq hL
 simp only at m1 m2 m3 m4
 have keep : ∀ b k', b ≠ g k → (x.setCells (g k) 0 cs).cell? ⟨b, k', none⟩ = x.cell? ⟨b, k', none⟩ := fun b k' hne =>
  World.cell?_setCells_out _ _ _ _ _ (fun e => absurd e hne)
 have hfill : At (x.setCells (g k) 0 cs) (g k) cs := fun j v hj => by
  have hjl : j < cs.length := (List.getElem?_eq_some_iff.1 hj).1
  have := World.cell?_setCells_in (g k) cs 0 x (fun j hj => by simpa using m4 j hj) j hjl
  rw [Nat.zero_add] at this
  rw [this, ← hj]; simp [hjl]
 refine ⟨setCells_below _ _ _ h.below (Nat.le_trans h.le m1), h.le, by rw [setCells_size]; exact h.size, fun p hp => ?_, fun q hq' hLq => ?_, fun q hq' hLq => ?_, fun q hq' r hr hne hLq hLr => ?_⟩
 ·obtain ⟨h1, h2⟩ := h.own p hp
  exact ⟨h1, fun j v hj => by rw [keep _ _ (by omega)]; exact h2 j v hj⟩
 ·rw [updB_ne (hi' q hq').1] at hLq
  obtain ⟨h1, h2, h3, h4⟩ := h.made q hq' hLq
  refine ⟨h1, by rw [setCells_size]; exact h2, fun o => by rw [World.frozen?_setCells]; exact h3 o, fun j hj => ?_⟩
  by_cases e : g q.1 = g k
  ·by_cases e2 : q.1 = k
   ·rw [e]
    have hc := hone q hq' e2
    rw [hc] at hj
    rw [hfill j cs[j] (by simp [hj])]; rfl
   ·exact absurd e (h.apart q hq' _ hq e2 hLq hL)
  ·rw [keep _ _ e]; exact h4 j hj
 ·rw [updB_ne (hi' q hq').1]
  by_cases e : q.1 = k
  ·refine ⟨by rw [e]; exact hL, ?_⟩
   rw [e, hone q hq' e]; exact hfill
  ·have e2 : q.2.1 ≠ i := fun e2 => e ((hi' q hq').2 e2)
   rw [updB_ne e2] at hLq
   obtain ⟨h1, h2⟩ := h.laid q hq' hLq
   exact ⟨h1, fun j v hj => by rw [keep _ _ (h.apart q hq' _ hq e h1 hL)]; exact h2 j v hj⟩
 ·rw [updB_ne (hi' q hq').1] at hLq
  rw [updB_ne (hi' r hr).1] at hLr
  exact h.apart q hq' r hr hne hLq hLr
theorem SS.start (hb : Below w0.heap.size w0 x) (h : ∀ p ∈ own, At x p.1 p.2 ∧ p.2 ≠ []) : SS w0 x.heap.size own pend g (fun _ => false) x.drew := by
 refine ⟨hb.drew, hb.size, Nat.le_refl _, fun p hp => ?_, fun _ _ h => (by cases h), fun _ _ h => (by cases h), fun _ _ _ _ _ h => (by cases h)⟩
 obtain ⟨h1, h2⟩ := h p hp
 refine ⟨?_, h1⟩
 cases hc : p.2 with
 | nil => exact absurd hc h2
 | cons c cs => exact World.block_lt_of_cell? x ⟨p.1, 0, none⟩ (h1 0 c (by rw [hc]; rfl))
theorem updG_al {al : List Nat} {b : Nat} (hal : al.contains i = true) : ∀ j, (j ≠ i ∨ al.contains i = false) → updG g i b j = g j := by
 rintro j (h | h)
 ·exact updG_ne _ h
 ·rw [hal] at h; cases h
theorem waits {o : Oper} (h : ∀ e ∈ o.after, Region.binds .any e = true → L e.on = true) (k : Nat) (hk : (o.after.any fun e => e.on == k && Region.binds .any e) = true) : L k = true := by
 obtain ⟨e, he, hb⟩ := Array.any_eq_true'.1 hk
 simp only [Bool.and_eq_true, beq_iff_eq] at hb
 rw [← hb.1]; exact h e he hb.2
theorem KnownR.nw {ops : Array Oper} {a0 : Act} {rs : List ((Nat → Nat) → Value)} {g : Nat → Nat} {L : Nat → Bool} {a : Act} (hK : KnownR ops a0 rs g L a) {o : Oper} (haft : ∀ e ∈ o.after, Region.binds .any e = true → L e.on = true) (k j : Nat) (t : Tmp) {v : (Nat → Nat) → Value} (hv : rs[j]? = some v)
  (hc : ((match ops.toList[k]? with | some o' => o'.dst == some t | none => false) && (j + k + 1 == rs.length) && (o.after.any fun e => e.on == k && Region.binds .any e)) = true) : a.tmps[t]? = some (v g) := by
 simp only [Bool.and_eq_true] at hc
 obtain ⟨⟨h1, h2⟩, h3⟩ := hc
 cases ho : ops.toList[k]? with
 | none => rw [ho] at h1; cases h1
 | some o' => rw [ho] at h1; exact hK.new k j o' t v ho (by simpa using h1) hv h2 (waits haft k h3)
theorem old_at {a b : Act} {t : Tmp} {v : Value} (e : a = b) (h : a.tmps[t]? = some v) : b.tmps[t]? = some v := by rw [← e]; exact h
theorem SS.go {al : List Nat} {K : Act → World → Prop} {a : Act} {d : Option Tmp} {v : (Nat → Nat) → Value} (h : SS w0 B own pend g L x) (hk : Shut (∀ (g' : Nat → Nat) (w' : World), (∀ j, (j ≠ i ∨ al.contains i = false) → g' j = g j) → SS w0 B own pend g' (updB L i) w' → K (a.put d (v g')) w')) (hi : (pend.all fun q => q.1 != i && q.2.1 != i) = true) : K (a.put d (v g)) x :=
 hk.out g x (fun _ _ => rfl) (h.same hi)
theorem SS.on {al : List Nat} {K : Act → World → Prop} {a : Act} {d : Option Tmp} {v : (Nat → Nat) → Value} (h : SS w0 B own pend g L x) (hk : Shut (∀ (g' : Nat → Nat) (w' : World), (∀ j, (j ≠ i ∨ al.contains i = false) → g' j = g j) → SS w0 B own pend g' (updB L i) w' → K (a.put d (v g')) w')) (hx : Below x.heap.size x x') (hi : (pend.all fun q => q.1 != i && q.2.1 != i) = true) : K (a.put d (v g)) x' :=
 hk.out g x' (fun _ _ => rfl) (h.ext hx hi)
end Go.Proofs.YtejljdbkocnhlaaGreat
