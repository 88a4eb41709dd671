import Derived.Test.YtedldoobmmhloaaY7
import Derived.Test.YtedldoobmmhloaaMg8
import Derived.BigRegion
namespace Go.Proofs.Ytedldoobmmhloaa
set_option maxHeartbeats 12800000
set_option maxRecDepth 100000
open Go.RowKit
set_option linter.unusedSimpArgs false
set_option linter.unusedVariables false
theorem box_cells {w x : World} {n : Nd} {T : TypeId} (hb : Below (w.alloc (.cells #[.int .i64 n.op, .int .i64 n.s, .int .i64 n.a, .int .i64 n.b, .int .i64 n.c, .int .i64 n.p, .int .i64 n.q, .int .i64 n.w, .int .u64 n.lo, .int .u64 n.hi, .string n.nm] T)).heap.size (w.alloc (.cells #[.int .i64 n.op, .int .i64 n.s, .int .i64 n.a, .int .i64 n.b, .int .i64 n.c, .int .i64 n.p, .int .i64 n.q, .int .i64 n.w, .int .u64 n.lo, .int .u64 n.hi, .string n.nm] T)) x) :
  ∀ j u, n.cs[j]? = some u → x.cell? ⟨w.heap.size, j, none⟩ = some u := by
 intro j u hj
 have h := (hb.block w.heap.size (by simp)).trans (heap_alloc_new w _)
 exact cell_of h j (by simpa [Nd.cs] using hj)
theorem srt_no {w : World} {B g mi mv mo : Nat} {v : Value} {ns : List Nd} (h : Gr w B g mi mv v mo ns) {n : Nd} (hp : prt ns.length n = false) :
  Calls Try.prog 24 #[.pointer (some ⟨g, 0, none⟩), .agg #[.int .i64 n.op, .int .i64 n.s, .int .i64 n.a, .int .i64 n.b, .int .i64 n.c, .int .i64 n.p, .int .i64 n.q, .int .i64 n.w, .int .u64 n.lo, .int .u64 n.hi, .string n.nm]] w fun e w' => e = .returned (.tuple #[.int .i64 0, .int .i64 32]) ∧ Below w.heap.size w w' := by
 have HP : Hid (∀ wx, Below w.heap.size w wx → Calls Try.prog 35 #[.pointer (some ⟨g, 0, none⟩), .agg #[.int .i64 n.op, .int .i64 n.s, .int .i64 n.a, .int .i64 n.b, .int .i64 n.c, .int .i64 n.p, .int .i64 n.q, .int .i64 n.w, .int .u64 n.lo, .int .u64 n.hi, .string n.nm]] wx fun e w' => e = .returned (.bool false) ∧ Below wx.heap.size wx w') := fun wx hb => by rw [← hp]; exact parts_any (h.below hb) n
 clear h hp
 go_enter Try.func24, Try.ntmps24
 go_wp2_with fail
 refine (HP.out _ (by go_grown)).mono ?_
 rintro e wz ⟨rfl, hb⟩
 have hB : Below w.heap.size w wz := Below.trans (by go_grown) (hb.mono (by simp))
 clear hb
 go_wp2_with fail
 refine bodyPost_ret (v := .tuple #[.int .i64 0, .int .i64 32]) (by simp [results, Try.results24, go_sem]) rfl ?_
 exact ⟨rfl, hB⟩
theorem srt_one {w : World} {B g mi mv mo : Nat} {v : Value} {ns : List Nd} (h : Gr w B g mi mv v mo ns) {n : Nd} (hf : Fi n) (hp : prt ns.length n = true) (ho : n.op = 1) :
  Calls Try.prog 24 #[.pointer (some ⟨g, 0, none⟩), .agg #[.int .i64 n.op, .int .i64 n.s, .int .i64 n.a, .int .i64 n.b, .int .i64 n.c, .int .i64 n.p, .int .i64 n.q, .int .i64 n.w, .int .u64 n.lo, .int .u64 n.hi, .string n.nm]] w fun e w' => e = .returned (.tuple #[.int .i64 (cstS n).1, .int .i64 (cstS n).2]) ∧ Below w.heap.size w w' := by
 have HP : Hid (∀ wx, Below w.heap.size w wx → Calls Try.prog 35 #[.pointer (some ⟨g, 0, none⟩), .agg #[.int .i64 n.op, .int .i64 n.s, .int .i64 n.a, .int .i64 n.b, .int .i64 n.c, .int .i64 n.p, .int .i64 n.q, .int .i64 n.w, .int .u64 n.lo, .int .u64 n.hi, .string n.nm]] wx fun e w' => e = .returned (.bool true) ∧ Below wx.heap.size wx w') := fun wx hb => by rw [← hp]; exact parts_any (h.below hb) n
 obtain ⟨E, hE⟩ : ∃ E, E = cstS n := ⟨_, rfl⟩
 have HS : Hid (∀ wx, Calls Try.prog 36 #[.agg #[.int .i64 n.op, .int .i64 n.s, .int .i64 n.a, .int .i64 n.b, .int .i64 n.c, .int .i64 n.p, .int .i64 n.q, .int .i64 n.w, .int .u64 n.lo, .int .u64 n.hi, .string n.nm]] wx fun e w' => e = .returned (.tuple #[.int .i64 E.1, .int .i64 E.2]) ∧ Below wx.heap.size wx w') := fun wx => by rw [hE]; exact cst_any hf wx
 rw [← hE]
 have z1 : (n.op == 1) = true := by simp [ho]
 clear h hp hE ho hf
 go_enter Try.func24, Try.ntmps24
 go_wp2_with fail
 refine (HP.out _ (by go_grown)).mono ?_
 rintro e wz ⟨rfl, hb⟩
 have hB : Below w.heap.size w wz := Below.trans (by go_grown) (hb.mono (by simp))
 have hc := box_cells hb
 have k0 := hc 0 _ rfl
 have k1 := hc 1 _ rfl
 have k2 := hc 2 _ rfl
 have k3 := hc 3 _ rfl
 have k4 := hc 4 _ rfl
 have k5 := hc 5 _ rfl
 have k6 := hc 6 _ rfl
 have k7 := hc 7 _ rfl
 have k8 := hc 8 _ rfl
 have k9 := hc 9 _ rfl
 have k10 := hc 10 _ rfl
 clear hb hc
 go_wp2_with fail
 refine (HS.out _).mono ?_
 rintro e w2 ⟨rfl, hb⟩
 have hB2 : Below w.heap.size w w2 := hB.trans (hb.mono hB.size)
 clear hb
 go_wp2_with fail
 refine bodyPost_ret (v := .tuple #[.int .i64 E.1, .int .i64 E.2]) (by simp [results, Try.results24, go_sem]) rfl ?_
 exact ⟨rfl, hB2⟩
theorem srt_two {w : World} {B g mi mv mo : Nat} {v : Value} {ns : List Nd} (h : Gr w B g mi mv v mo ns) {n : Nd} (hf : Fi n) (hp : prt ns.length n = true) (ho : n.op = 2) :
  Calls Try.prog 24 #[.pointer (some ⟨g, 0, none⟩), .agg #[.int .i64 n.op, .int .i64 n.s, .int .i64 n.a, .int .i64 n.b, .int .i64 n.c, .int .i64 n.p, .int .i64 n.q, .int .i64 n.w, .int .u64 n.lo, .int .u64 n.hi, .string n.nm]] w fun e w' => e = .returned (.tuple #[.int .i64 (varS ns n).1, .int .i64 (varS ns n).2]) ∧ Below w.heap.size w w' := by
 have HP : Hid (∀ wx, Below w.heap.size w wx → Calls Try.prog 35 #[.pointer (some ⟨g, 0, none⟩), .agg #[.int .i64 n.op, .int .i64 n.s, .int .i64 n.a, .int .i64 n.b, .int .i64 n.c, .int .i64 n.p, .int .i64 n.q, .int .i64 n.w, .int .u64 n.lo, .int .u64 n.hi, .string n.nm]] wx fun e w' => e = .returned (.bool true) ∧ Below wx.heap.size wx w') := fun wx hb => by rw [← hp]; exact parts_any (h.below hb) n
 obtain ⟨E, hE⟩ : ∃ E, E = varS ns n := ⟨_, rfl⟩
 have HS : Hid (∀ wx, Below w.heap.size w wx → Calls Try.prog 37 #[.pointer (some ⟨g, 0, none⟩), .agg #[.int .i64 n.op, .int .i64 n.s, .int .i64 n.a, .int .i64 n.b, .int .i64 n.c, .int .i64 n.p, .int .i64 n.q, .int .i64 n.w, .int .u64 n.lo, .int .u64 n.hi, .string n.nm]] wx fun e w' => e = .returned (.tuple #[.int .i64 E.1, .int .i64 E.2]) ∧ Below wx.heap.size wx w') := fun wx hb => by rw [hE]; exact vrs_any (h.below hb) hf
 rw [← hE]
 have z1 : (n.op == 1) = false := by simp [ho]
 have z2 : (n.op == 2) = true := by simp [ho]
 clear h hp hE ho hf
 go_enter Try.func24, Try.ntmps24
 go_wp2_with fail
 refine (HP.out _ (by go_grown)).mono ?_
 rintro e wz ⟨rfl, hb⟩
 have hB : Below w.heap.size w wz := Below.trans (by go_grown) (hb.mono (by simp))
 have hc := box_cells hb
 have k0 := hc 0 _ rfl
 have k1 := hc 1 _ rfl
 have k2 := hc 2 _ rfl
 have k3 := hc 3 _ rfl
 have k4 := hc 4 _ rfl
 have k5 := hc 5 _ rfl
 have k6 := hc 6 _ rfl
 have k7 := hc 7 _ rfl
 have k8 := hc 8 _ rfl
 have k9 := hc 9 _ rfl
 have k10 := hc 10 _ rfl
 clear hb hc
 go_wp2_with fail
 refine (HS.out _ hB).mono ?_
 rintro e w2 ⟨rfl, hb⟩
 have hB2 : Below w.heap.size w w2 := hB.trans (hb.mono hB.size)
 clear hb
 go_wp2_with fail
 refine bodyPost_ret (v := .tuple #[.int .i64 E.1, .int .i64 E.2]) (by simp [results, Try.results24, go_sem]) rfl ?_
 exact ⟨rfl, hB2⟩
theorem srt_else {w : World} {B g mi mv mo : Nat} {v : Value} {ns : List Nd} (h : Gr w B g mi mv v mo ns) {n : Nd} (hp : prt ns.length n = true) (h1 : ¬ n.op = 1) (h2 : ¬ n.op = 2) :
  Calls Try.prog 24 #[.pointer (some ⟨g, 0, none⟩), .agg #[.int .i64 n.op, .int .i64 n.s, .int .i64 n.a, .int .i64 n.b, .int .i64 n.c, .int .i64 n.p, .int .i64 n.q, .int .i64 n.w, .int .u64 n.lo, .int .u64 n.hi, .string n.nm]] w fun e w' => e = .returned (.tuple #[.int .i64 (srtF n.op n.p n.q (oss ns n)).1, .int .i64 (srtF n.op n.p n.q (oss ns n)).2]) ∧ Below w.heap.size w w' := by
 have HP : Hid (∀ wx, Below w.heap.size w wx → Calls Try.prog 35 #[.pointer (some ⟨g, 0, none⟩), .agg #[.int .i64 n.op, .int .i64 n.s, .int .i64 n.a, .int .i64 n.b, .int .i64 n.c, .int .i64 n.p, .int .i64 n.q, .int .i64 n.w, .int .u64 n.lo, .int .u64 n.hi, .string n.nm]] wx fun e w' => e = .returned (.bool true) ∧ Below wx.heap.size wx w') := fun wx hb => by rw [← hp]; exact parts_any (h.below hb) n
 have hk0 : 0 ≤ ari n.op := by
  apply Classical.byContradiction; intro hq
  rw [prt_ari (by omega)] at hp; cases hp
 have hk1 : 1 ≤ ari n.op := by
  unfold ari at hk0 ⊢
  split
  ·rw [if_pos (by assumption)] at hk0; omega
  ·rw [if_neg (by omega)]
   split <;> (try split) <;> omega
 have hk3 := ari_le n.op
 have hol : (oss ns n).length = (ari n.op).toNat := oss_len (k := (ari n.op).toNat) (by omega) (by omega)
 have HNE : Hid (oss ns n ≠ []) := fun e => by rw [e] at hol; simp at hol; omega
 have HL3 : Hid ((oss ns n).length ≤ 3) := by unfold Hid; omega
 have HQ : Hid (∀ wx, Below w.heap.size w wx → Calls Try.prog 39 #[.pointer (some ⟨g, 0, none⟩), .agg #[.int .i64 n.op, .int .i64 n.s, .int .i64 n.a, .int .i64 n.b, .int .i64 n.c, .int .i64 n.p, .int .i64 n.q, .int .i64 n.w, .int .u64 n.lo, .int .u64 n.hi, .string n.nm]] wx fun e w' => ∃ u, e = .returned u ∧ Is' w' wx.heap.size u (oss ns n) ∧ Below wx.heap.size wx w') := fun wx hb => osr_any (h.below hb) hp
 obtain ⟨O, hO⟩ : ∃ O, O = oss ns n := ⟨_, rfl⟩
 obtain ⟨E, hE⟩ : ∃ E, E = srtF n.op n.p n.q O := ⟨_, rfl⟩
 rw [← hO] at HNE HL3 HQ ⊢
 have HS : Hid (∀ wx (r cap : Nat), Li wx r 0 O → O.length ≤ cap → Calls Try.prog 38 #[.int .i64 n.op, .int .i64 n.p, .int .i64 n.q, .slice (some ⟨r, 0, none⟩) O.length cap] wx fun e w' => e = .returned (.tuple #[.int .i64 E.1, .int .i64 E.2]) ∧ Below wx.heap.size wx w') := fun wx r cap hl hc => by rw [hE]; exact sort_any hl (by have := HL3.out; omega) hc
 rw [← hE]
 have z1 : (n.op == 1) = false := by simp [h1]
 have z2 : (n.op == 2) = false := by simp [h2]
 clear h hp hE h1 h2 hk0 hk1 hk3 hol hO
 go_enter Try.func24, Try.ntmps24
 go_wp2_with fail
 refine (HP.out _ (by go_grown)).mono ?_
 rintro e wz ⟨rfl, hb⟩
 have hB : Below w.heap.size w wz := Below.trans (by go_grown) (hb.mono (by simp))
 have hc := box_cells hb
 have k0 := hc 0 _ rfl
 have k1 := hc 1 _ rfl
 have k2 := hc 2 _ rfl
 have k3 := hc 3 _ rfl
 have k4 := hc 4 _ rfl
 have k5 := hc 5 _ rfl
 have k6 := hc 6 _ rfl
 have k7 := hc 7 _ rfl
 have k8 := hc 8 _ rfl
 have k9 := hc 9 _ rfl
 have k10 := hc 10 _ rfl
 clear hb hc
 go_wp2_with fail
 go_region_held3 (fun x => x.cell? ⟨w.heap.size, 0, none⟩ = some (.int .i64 n.op) ∧ x.cell? ⟨w.heap.size, 1, none⟩ = some (.int .i64 n.s) ∧ x.cell? ⟨w.heap.size, 2, none⟩ = some (.int .i64 n.a) ∧ x.cell? ⟨w.heap.size, 3, none⟩ = some (.int .i64 n.b) ∧ x.cell? ⟨w.heap.size, 4, none⟩ = some (.int .i64 n.c) ∧ x.cell? ⟨w.heap.size, 5, none⟩ = some (.int .i64 n.p) ∧ x.cell? ⟨w.heap.size, 6, none⟩ = some (.int .i64 n.q) ∧ x.cell? ⟨w.heap.size, 7, none⟩ = some (.int .i64 n.w) ∧ x.cell? ⟨w.heap.size, 8, none⟩ = some (.int .u64 n.lo) ∧ x.cell? ⟨w.heap.size, 9, none⟩ = some (.int .u64 n.hi) ∧ x.cell? ⟨w.heap.size, 10, none⟩ = some (.string n.nm) ∧ Below w.heap.size w x)
  ((first | (obtain ⟨q0, q1, q2, q3, q4, q5, q6, q7, q8, q9, q10, qB⟩ := ‹_ ∧ _ ∧ _ ∧ _ ∧ _ ∧ _ ∧ _ ∧ _ ∧ _ ∧ _ ∧ _ ∧ _›; with_reducible exact ⟨keep_cell hb q0, keep_cell hb q1, keep_cell hb q2, keep_cell hb q3, keep_cell hb q4, keep_cell hb q5, keep_cell hb q6, keep_cell hb q7, keep_cell hb q8, keep_cell hb q9, keep_cell hb q10, below_step qB hb⟩) | (refine ⟨?_, ?_, ?_, ?_, ?_, ?_, ?_, ?_, ?_, ?_, ?_, hB.drew⟩ <;> simp [go_sem, k0, k1, k2, k3, k4, k5, k6, k7, k8, k9, k10])))
  ((first | (go_at_call 39; refine (HQ.out _ (by first | exact hB.drew | (obtain ⟨-, -, -, -, -, -, -, -, -, -, -, qB⟩ := ‹_ ∧ _ ∧ _ ∧ _ ∧ _ ∧ _ ∧ _ ∧ _ ∧ _ ∧ _ ∧ _ ∧ _›; exact qB))).mono ?_; rintro e w1 ⟨u, rfl, hI, hb⟩; obtain ⟨r, cap, rfl, -, hcap, hLi⟩ := hI.li HNE.out) | (go_at_call 38; refine (HS.out _ _ _ (by assumption) (by assumption)).mono ?_; rintro e w1 ⟨rfl, hb⟩)))
 obtain ⟨-, -, -, -, -, -, -, -, -, -, -, hBq⟩ := ‹_ ∧ _ ∧ _ ∧ _ ∧ _ ∧ _ ∧ _ ∧ _ ∧ _ ∧ _ ∧ _ ∧ _›
 go_wp2_with fail
 refine bodyPost_ret (v := .tuple #[.int .i64 E.1, .int .i64 E.2]) (by simp [results, Try.results24, go_sem]) rfl ?_
 exact ⟨rfl, hBq⟩
theorem sortOf_any {w : World} {B g mi mv mo : Nat} {v : Value} {ns : List Nd} (h : Gr w B g mi mv v mo ns) {n : Nd} (hf : Fi n) :
  Calls Try.prog 24 #[.pointer (some ⟨g, 0, none⟩), .agg #[.int .i64 n.op, .int .i64 n.s, .int .i64 n.a, .int .i64 n.b, .int .i64 n.c, .int .i64 n.p, .int .i64 n.q, .int .i64 n.w, .int .u64 n.lo, .int .u64 n.hi, .string n.nm]] w fun e w' => e = .returned (.tuple #[.int .i64 (srtOf ns n).1, .int .i64 (srtOf ns n).2]) ∧ Below w.heap.size w w' := by
 cases hp : prt ns.length n
 ·have e : srtOf ns n = (0, 32) := by unfold srtOf; rw [if_pos hp]
  rw [e]
  exact srt_no h hp
 ·by_cases h1 : n.op = 1
  ·have e : srtOf ns n = cstS n := by unfold srtOf; rw [if_neg (by simp [hp]), if_pos h1]; rfl
   rw [e]
   exact srt_one h hf hp h1
  ·by_cases h2 : n.op = 2
   ·have e : srtOf ns n = varS ns n := by unfold srtOf; rw [if_neg (by simp [hp]), if_neg h1, if_pos h2]; rfl
    rw [e]
    exact srt_two h hf hp h2
   ·have e : srtOf ns n = srtF n.op n.p n.q (oss ns n) := by unfold srtOf; rw [if_neg (by simp [hp]), if_neg h1, if_neg h2]
    rw [e]
    exact srt_else h hp h1 h2
def vsF (ns : List Nd) : List Int := (ns.mapIdx fun i n => (n, i)).filterMap fun x => if x.1.op = 2 then some ((x.2 : Int) + 1) else none
theorem vsF_snoc {ns : List Nd} {k : Nat} {n : Nd} (h : ns[k]? = some n) : vsF (ns.take (k + 1)) = vsF (ns.take k) ++ (if n.op = 2 then [(k : Int) + 1] else []) := by
 have hk : k < ns.length := (List.getElem?_eq_some_iff.1 h).1
 rw [List.take_add_one, h]
 unfold vsF
 rw [show (some n).toList = [n] from rfl, List.mapIdx_append, List.filterMap_append]
 congr 1
 by_cases h2 : n.op = 2 <;> simp [h2, Nat.min_eq_left (Nat.le_of_lt hk)]
theorem vsF_len (ns : List Nd) : (vsF ns).length ≤ ns.length := by
 unfold vsF
 refine Nat.le_trans (List.length_filterMap_le _ _) ?_
 simp
theorem vars_any {w : World} {B g mi mv mo : Nat} {v : Value} {ns : List Nd} (h : Gr w B g mi mv v mo ns) (hne : 0 < ns.length) :
  Calls Try.prog 27 #[.pointer (some ⟨g, 0, none⟩)] w fun e w' => ∃ u, e = .returned u ∧ Is' w' w.heap.size u (vsF ns) ∧ Below w.heap.size w w' := by
 have hlen := h.len
 have c1 := h.c1
 have hg := h.lt
 obtain ⟨r, cap, rfl, hBr, hrl, hc⟩ := row_all h.row hne
 have HC : Hid _ := hc
 obtain ⟨t0, ht0, hz0, hz1, hz2⟩ := info_parts info3
 have HI0 : Hid (Try.prog.info? 3 = some t0 ∧ t0.zero = some (.int .i64 0) ∧ t0.size = 1 ∧ t0.bytes = 8) := ⟨ht0, hz0, hz1, hz2⟩
 obtain ⟨N, hN⟩ : ∃ N, N = ns.length := ⟨_, rfl⟩
 have HN : Hid _ := hN
 rw [← hN] at c1 hlen hne
 clear h hc ht0 hz0 hz1 hz2 hBr hN
 go_enter Try.func27, Try.ntmps27
 go_wp2_with fail
 go_loopw [3, 11] (fun v i wr => ∃ k : Nat, k ≤ N ∧ i = .int .i64 (k : Int) ∧ Is' wr w.heap.size v (vsF (ns.take k)) ∧ Below w.heap.size w wr) (fun v i wr => N - (intOf i).toNat)
 case atStart =>
  exact ⟨0, Nat.zero_le _, rfl, World.ownsRow_nil _ _ _ _, Below.refl _ _⟩
 case round =>
  obtain ⟨k, hk, rfl, hI, hbl⟩ := hrel
  have HI : Hid _ := hI
  clear hI
  by_cases hlt : k < N
  ·obtain ⟨n, hn⟩ : ∃ n, ns[k]? = some n := ⟨_, List.getElem?_eq_getElem (by rw [← HN.out]; exact hlt)⟩
   have hc := HC.out k n hn
   have d0 : wr.cell? ⟨r, k * 11, none⟩ = some (.int .i64 n.op) := bel_cell hbl hrl (hc 0 _ rfl)
   have d1 : wr.cell? ⟨r, k * 11 + 1, none⟩ = some (.int .i64 n.s) := bel_cell hbl hrl (hc 1 _ rfl)
   have d2 : wr.cell? ⟨r, k * 11 + 2, none⟩ = some (.int .i64 n.a) := bel_cell hbl hrl (hc 2 _ rfl)
   have d3 : wr.cell? ⟨r, k * 11 + 3, none⟩ = some (.int .i64 n.b) := bel_cell hbl hrl (hc 3 _ rfl)
   have d4 : wr.cell? ⟨r, k * 11 + 4, none⟩ = some (.int .i64 n.c) := bel_cell hbl hrl (hc 4 _ rfl)
   have d5 : wr.cell? ⟨r, k * 11 + 5, none⟩ = some (.int .i64 n.p) := bel_cell hbl hrl (hc 5 _ rfl)
   have d6 : wr.cell? ⟨r, k * 11 + 6, none⟩ = some (.int .i64 n.q) := bel_cell hbl hrl (hc 6 _ rfl)
   have d7 : wr.cell? ⟨r, k * 11 + 7, none⟩ = some (.int .i64 n.w) := bel_cell hbl hrl (hc 7 _ rfl)
   have d8 : wr.cell? ⟨r, k * 11 + 8, none⟩ = some (.int .u64 n.lo) := bel_cell hbl hrl (hc 8 _ rfl)
   have d9 : wr.cell? ⟨r, k * 11 + 9, none⟩ = some (.int .u64 n.hi) := bel_cell hbl hrl (hc 9 _ rfl)
   have d10 : wr.cell? ⟨r, k * 11 + 10, none⟩ = some (.string n.nm) := bel_cell hbl hrl (hc 10 _ rfl)
   have hrl' : r < wr.heap.size := Nat.lt_of_lt_of_le hrl hbl.size
   have HS := vsF_snoc hn
   have HLN : Hid ((vsF (ns.take k)).length ≤ 5000) := by unfold Hid; have := vsF_len (ns.take k); simp at this; omega
   clear hc hn
   by_cases h2 : n.op = 2
   ·rw [if_pos h2] at HS
    have HSS : Hid _ := HS
    have z2 : (n.op == 2) = true := by simp [h2]
    have e1 : wrap64 ((k : Int) + 1) = (k : Int) + 1 := by unfold wrap64; omega
    clear h2 HS
    go_wp2_with (at_builtin; refine wpList_append_own_at _ rfl _ _ 39 rfl w.heap.size 3 t0 (.int .i64 0) 1 8 under45 HI0.out.1 HI0.out.2.1 HI0.out.2.2.1 HI0.out.2.2.2 rfl (by decide) _ _ _ rfl (row_kept (row_kept HI.out (fun _ hq => heap_alloc_old _ _ hq)) (fun _ hq => heap_alloc_old _ _ hq)) _ 1 1 [.int .i64 ((k : Int) + 1)] rfl rfl (by intro j u hj; match j, hj with | 0, hj => simp at hj; subst hj; simp [Addr.add]) (ones [(k : Int) + 1]) (by have := HLN.out; unfold maxLen; omega) (by have := HLN.out; omega) (by have := hbl.size; simp; omega) ?_; intro v1 w1 hown hgrow hnil hat)
    have hrow : ∀ q, u3.ownBlock = some q → w.heap.size ≤ q := fun q hq => (HI.out.lt q hq).1
    have HI1 : Hid (Is' w1 w.heap.size v1 (vsF (ns.take (k + 1)))) := by
     unfold Hid Is'
     rw [HSS.out, List.map_append, List.length_append]
     exact hown
    have hb1 : Below w.heap.size w w1 := low_grown (hbl.alloc hbl.size _) (by have := hbl.size; simp; omega) hgrow hrow
    clear hown hgrow hnil hat hrow HI
    go_wp2_with fail
    exact ⟨⟨k + 1, by omega, by go_num, HI1.out, hb1⟩, by simp [intOf]; omega⟩
   ·rw [if_neg h2, List.append_nil] at HS
    have HSS : Hid _ := HS
    have z2 : (n.op == 2) = false := by simp [h2]
    clear h2 HS
    go_wp2_with fail
    exact ⟨⟨k + 1, by omega, by go_num, by rw [HSS.out]; exact row_kept HI.out (fun _ hq => heap_alloc_old _ _ hq), hbl.alloc hbl.size _⟩, by simp [intOf]; omega⟩
  ·obtain rfl : k = N := by omega
   have HF : Hid (Is' wr w.heap.size u3 (vsF ns)) := by have h := HI.out; rw [HN.out, List.take_length] at h; exact h
   clear HI
   go_wp2_with fail
   go_ret
   exact ⟨_, rfl, HF.out, hbl⟩
def N1 : Nd := ⟨2, 4, 0, 0, 0, 0, 0, 0, 0, 0, ⟨#[120]⟩⟩
def N2 : Nd := ⟨18, 4, 1, 1, 0, 0, 0, 0, 0, 0, ⟨#[]⟩⟩
def N3 : Nd := ⟨38, 8, 2, 2, 0, 0, 0, 0, 0, 0, ⟨#[]⟩⟩
def acc3 (k : Nat) : List Int := if k = 3 then [] else if k = 2 then [3] else if k = 1 then [3, 2] else [3, 2, 1]
def inb (k j : Nat) : Bool := if k = 3 then decide (j = 3) else if k = 2 then !decide (j = 1) else true
theorem row_sets {x y : World} {b : Nat} {e : TypeId} {sz : Nat} {v : Value} {n : Nat} {xs : List Value} (h : x.ownsRow b e sz v n xs) (hk : ∀ q, b ≤ q → q < x.heap.size → y.heap[q]? = x.heap[q]?) : y.ownsRow b e sz v n xs := by
 refine ⟨h.1, ?_⟩
 rcases h.2 with hn | ⟨g, cap, cur, rfl, hb, hgg, rest⟩
 ·exact .inl hn
 ·exact .inr ⟨g, cap, cur, rfl, hb, by rw [hk g hb (Array.getElem?_eq_some_iff.1 hgg).1]; exact hgg, rest⟩
end Go.Proofs.Ytedldoobmmhloaa
