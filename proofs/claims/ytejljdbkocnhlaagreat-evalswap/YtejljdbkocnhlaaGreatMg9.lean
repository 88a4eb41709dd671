import Derived.Test.YtejljdbkocnhlaaGreatY10
import Derived.Test.YtejljdbkocnhlaaGreatMg5
import Derived.Test.YtejljdbkocnhlaaGreatMg2
import Derived.Deep.QuietTactic
import Derived.BigQuiet
import Derived.Test.YtejljdbkocnhlaaGreatMg7
import Derived.Deep.Slices
import Derived.ProofKit
import Derived.OpenShut
import Derived.Deep.OwnRows
namespace Go.Proofs.YtejljdbkocnhlaaGreat
set_option maxHeartbeats 12800000
set_option maxRecDepth 100000
open Go.RowKit
set_option linter.unusedSimpArgs false
set_option linter.unusedVariables false
theorem ans_nn {op p q : Int} {l : List Int} (hall : l.all srt = true) (hn : nft op p q (l.getD 0 0) = true) : 0 ≤ ans op p q l := by
 have hg : ∀ j, 0 ≤ l.getD j 0 := fun j => by
  by_cases hj : j < l.length
  ·exact (srt_at hall hj).1
  ·rw [List.getD_eq_getElem?_getD, List.getElem?_eq_none (by omega)]; simp
 unfold ans
 split
 ·omega
 ·split
  ·exact hg 1
  ·split
   ·omega
   ·split
    ·have := hg 0; have := hg 1; omega
    ·split
     ·rename_i h; subst h
      have hn' : (p < l.getD 0 0 ∧ q ≤ p) ∧ 0 ≤ q := by simpa [nft] using hn
      omega
     ·split
      ·rename_i h
       have hn' : 0 ≤ p := by
        rcases h with rfl | rfl <;> (have := hn; simp [nft] at this; omega)
       have := hg 0; omega
      ·split
       ·rename_i h; subst h
        have hn' : 1 ≤ p ∧ q = 0 := by simpa [nft] using hn
        exact Int.mul_nonneg (hg 0) (by omega)
       ·exact hg 0
theorem srtF_ok {op p q s : Int} {l : List Int} (h : srtF op p q l = (s, 0)) : 0 ≤ s ∧ s ≤ 128 := by
 unfold srtF at h
 split at h
 ·cases h
 ·split at h
  ·rename_i hq
   split at h
   ·rename_i hle
    cases h
    have hf := hq.2
    unfold fitB at hf
    simp only [Bool.and_eq_true] at hf
    exact ⟨ans_nn hf.1.1 hf.2, hle⟩
   ·cases h
  ·cases h
theorem opB_kid {N : Nat} {k j x : Int} (h : opB N k j x = true) : 0 ≤ x ∧ x ≤ (N : Int) := by
 unfold opB at h
 split at h
 ·have : 1 ≤ x ∧ x ≤ (N : Int) := by simpa [hasB] using h
  omega
 ·have : x = 0 := by simpa using h
  omega
theorem inv_snoc {ns : List Nd} {n : Nd} {s : Int} (hv : Inv ns) (hs : srtOf ns n = (s, 0)) (hno : n.wi s ∉ ns) : Inv (ns ++ [n.wi s]) := by
 have hp : prt ns.length n = true := by
  cases e : prt ns.length n
  ·unfold srtOf at hs; rw [if_pos e] at hs; cases hs
  ·rfl
 have hp' := hp
 rw [prt_eq rfl] at hp'
 simp only [Bool.and_eq_true] at hp'
 obtain ⟨⟨⟨⟨⟨-, ha⟩, hb⟩, hc⟩, hval⟩, -⟩ := hp'
 have hss : 0 ≤ s ∧ s ≤ 128 := by
  unfold srtOf at hs
  rw [if_neg (by simp [hp])] at hs
  split at hs
  ·split at hs
   ·rename_i hq
    cases hs
    simp only [Bool.and_eq_true, decide_eq_true_eq] at hq
    have hr := hq.1.1.1
    unfold rgt at hr
    simp only [Bool.and_eq_true, decide_eq_true_eq] at hr
    have := hq.1.1.2
    omega
   ·cases hs
  ·split at hs
   ·split at hs
    ·rename_i hq
     simp only [Bool.and_eq_true, decide_eq_true_eq] at hq
     have hr := hq.1.1
     unfold srt at hr
     simp only [Bool.and_eq_true, decide_eq_true_eq] at hr
     split at hs
     ·cases hs
     ·cases hs; exact hr
    ·cases hs
   ·exact srtF_ok hs
 have hvar : n.op = 2 → (n.p = 0 ∧ n.q = 0 ∧ s = n.s ∧ clash ns n = false) := by
  intro h2
  unfold srtOf at hs
  rw [if_neg (by simp [hp]), if_neg (by omega), if_pos h2] at hs
  split at hs
  ·rename_i hq
   simp only [Bool.and_eq_true, decide_eq_true_eq] at hq
   split at hs
   ·cases hs
   ·rename_i hc
    simp only [Bool.or_eq_true, not_or, Bool.not_eq_true] at hc
    cases hs
    exact ⟨hq.1.2, hq.2, rfl, hc.2⟩
  ·cases hs
 have hcan : n.op = 2 → n.a = 0 ∧ n.b = 0 ∧ n.c = 0 ∧ n.w = 0 ∧ n.lo = 0 ∧ n.hi = 0 := by
  intro h2
  have h0 : ari n.op = 0 := by rw [h2]; decide
  rw [h0] at ha hb hc
  have z : zB n.w n.lo n.hi = true := by
   rw [h2] at hval; simpa using hval
  unfold zB at z
  simp only [Bool.and_eq_true, decide_eq_true_eq] at z
  have a0 : n.a = 0 := by simpa [opB] using ha
  have b0 : n.b = 0 := by simpa [opB] using hb
  have c0 : n.c = 0 := by simpa [opB] using hc
  exact ⟨a0, b0, c0, z.1.1, z.1.2, z.2⟩
 have key : ∀ m ∈ ns, m.op = 2 → n.op = 2 → m.nm = n.nm → False := by
  intro m hm hm2 h2 hnm
  obtain ⟨p0, q0, es, hcl⟩ := hvar h2
  obtain ⟨a0, b0, c0, w0, l0, h0⟩ := hcan h2
  obtain ⟨a1, b1, c1, p1, q1, w1, l1, h1⟩ := hv.canon m hm hm2
  have hms : m.s = n.s := by
   have := clash_some hv hm hm2 hnm
   rw [hcl] at this
   simpa using this.symm
  apply hno
  have : m = n.wi s := by
   cases m; cases n
   simp only [Nd.wi, Nd.mk.injEq] at *
   simp [*]
  rw [← this]; exact hm
 refine ⟨?_, ?_, ?_, ?_, ?_⟩
 ·intro m hm
  rcases List.mem_append.1 hm with hm | hm
  ·exact hv.sorts m hm
  ·obtain rfl := List.mem_singleton.1 hm; exact hss
 ·rw [List.nodup_append]
  refine ⟨hv.once, by simp, ?_⟩
  intro a ha b hb e
  obtain rfl := List.mem_singleton.1 hb
  exact hno (e ▸ ha)
 ·intro a ha b hb ha2 hb2 hnm
  rcases List.mem_append.1 ha with ha | ha
  ·rcases List.mem_append.1 hb with hb | hb
   ·exact hv.names a ha b hb ha2 hb2 hnm
   ·obtain rfl := List.mem_singleton.1 hb
    exact (key a ha ha2 hb2 hnm).elim
  ·obtain rfl := List.mem_singleton.1 ha
   rcases List.mem_append.1 hb with hb | hb
   ·exact (key b hb hb2 ha2 hnm.symm).elim
   ·obtain rfl := List.mem_singleton.1 hb; rfl
 ·intro m hm hm2
  rcases List.mem_append.1 hm with hm | hm
  ·exact hv.canon m hm hm2
  ·obtain rfl := List.mem_singleton.1 hm
   obtain ⟨p0, q0, es, hcl⟩ := hvar hm2
   obtain ⟨a0, b0, c0, w0, l0, h0⟩ := hcan hm2
   exact ⟨a0, b0, c0, p0, q0, w0, l0, h0⟩
 ·intro i m hi
  by_cases hlt : i < ns.length
  ·rw [List.getElem?_append_left hlt] at hi
   exact hv.kids i m hi
  ·rw [List.getElem?_append_right (by omega)] at hi
   have hi' : i - ns.length = 0 := by
    have := (List.getElem?_eq_some_iff.1 hi).1
    simp at this; omega
   rw [hi'] at hi
   obtain rfl : n.wi s = m := by simpa using hi
   have e : i = ns.length := by omega
   rw [e]
   have k1 := opB_kid ha
   have k2 := opB_kid hb
   have k3 := opB_kid hc
   exact ⟨k1.1, k1.2, k2.1, k2.2, k3.1, k3.2⟩
theorem mk_err {w : World} {B g mi mv mo : Nat} {v : Value} {ns : List Nd} (h : Gr w B g mi mv v mo ns) {n : Nd} {s : Int} (hf : Fi n) {er : Int} (hs : srtOf ns n = (s, er)) (he : ¬ er = 0) :
  Calls Tryz.prog 22 #[.pointer (some ⟨g, 0, none⟩), .agg #[.int .i64 n.op, .int .i64 n.s, .int .i64 n.a, .int .i64 n.b, .int .i64 n.c, .int .i64 n.p, .int .i64 n.q, .int .i64 n.w, .int .u64 n.lo, .int .u64 n.hi, .string n.nm]] w fun E' w' => E' = .returned (.tuple #[.int .i64 0, .int .i64 er]) ∧ Below w.heap.size w w' := by
 have HSO : Hid (∀ wx, Below w.heap.size w wx → Rt 43 #[.pointer (some ⟨g, 0, none⟩), .agg #[.int .i64 n.op, .int .i64 n.s, .int .i64 n.a, .int .i64 n.b, .int .i64 n.c, .int .i64 n.p, .int .i64 n.q, .int .i64 n.w, .int .u64 n.lo, .int .u64 n.hi, .string n.nm]] wx (.tuple #[.int .i64 s, .int .i64 er])) := fun wx hb => by have := sortOf_any (h.below hb) hf; rw [hs] at this; exact this
 have z1 : (er == 0) = false := by simp [he]
 have z2 : (er != 0) = true := by simp [he]
 clear h hs hf he
 go_enter Tryz.func22, Tryz.ntmps22
 go_wp2_with fail
 refine (HSO.out _ (by go_grown)).mono ?_
 rintro e0 wz ⟨rfl, hb⟩
 have hB : Below w.heap.size w wz := Below.trans (by go_grown) (hb.mono (by simp))
 have hc := box_cells hb
 have k0 : wz.cell? ⟨w.heap.size, 0, none⟩ = some (.int .i64 n.op) := hc 0 _ rfl
 have k1 : wz.cell? ⟨w.heap.size, 1, none⟩ = some (.int .i64 n.s) := hc 1 _ rfl
 have k2 : wz.cell? ⟨w.heap.size, 2, none⟩ = some (.int .i64 n.a) := hc 2 _ rfl
 have k3 : wz.cell? ⟨w.heap.size, 3, none⟩ = some (.int .i64 n.b) := hc 3 _ rfl
 have k4 : wz.cell? ⟨w.heap.size, 4, none⟩ = some (.int .i64 n.c) := hc 4 _ rfl
 have k5 : wz.cell? ⟨w.heap.size, 5, none⟩ = some (.int .i64 n.p) := hc 5 _ rfl
 have k6 : wz.cell? ⟨w.heap.size, 6, none⟩ = some (.int .i64 n.q) := hc 6 _ rfl
 have k7 : wz.cell? ⟨w.heap.size, 7, none⟩ = some (.int .i64 n.w) := hc 7 _ rfl
 have k8 : wz.cell? ⟨w.heap.size, 8, none⟩ = some (.int .u64 n.lo) := hc 8 _ rfl
 have k9 : wz.cell? ⟨w.heap.size, 9, none⟩ = some (.int .u64 n.hi) := hc 9 _ rfl
 have k10 : wz.cell? ⟨w.heap.size, 10, none⟩ = some (.string n.nm) := hc 10 _ rfl
 have kf : wz.frozen? ⟨w.heap.size, 1, none⟩ = false := by rw [hb.frozen (p := ⟨w.heap.size, 1, none⟩) (by simp)]; simp
 have hsz : w.heap.size < wz.heap.size := by have := hb.size; simp at this; omega
 clear hb hc
 go_wp2_with fail
 refine bodyPost_ret (v := .tuple #[.int .i64 0, .int .i64 er]) (by simp [results, Tryz.results22, go_sem]) rfl ?_
 exact ⟨rfl, hB⟩
theorem mk_old {w : World} {B g mi mv mo : Nat} {v : Value} {ns : List Nd} (h : Gr w B g mi mv v mo ns) {n : Nd} {s : Int} (hf : Fi n) (hs : srtOf ns n = (s, 0)) {i : Nat} (hi : ns[i]? = some (n.wi s)) :
  Rt 22 #[.pointer (some ⟨g, 0, none⟩), .agg #[.int .i64 n.op, .int .i64 n.s, .int .i64 n.a, .int .i64 n.b, .int .i64 n.c, .int .i64 n.p, .int .i64 n.q, .int .i64 n.w, .int .u64 n.lo, .int .u64 n.hi, .string n.nm]] w (.tuple #[.int .i64 ((i : Int) + 1), .int .i64 0]) := by
 have HSO : Hid (∀ wx, Below w.heap.size w wx → Rt 43 #[.pointer (some ⟨g, 0, none⟩), .agg #[.int .i64 n.op, .int .i64 n.s, .int .i64 n.a, .int .i64 n.b, .int .i64 n.c, .int .i64 n.p, .int .i64 n.q, .int .i64 n.w, .int .u64 n.lo, .int .u64 n.hi, .string n.nm]] wx (.tuple #[.int .i64 s, .int .i64 0])) := fun wx hb => by have := sortOf_any (h.below hb) hf; rw [hs] at this; exact this
 have c0 := h.c0
 have c1 := h.c1
 have c2 := h.c2
 have hg := h.lt
 have HL : Hid (∀ x, Below w.heap.size w x → (Instr.lookup 88 (.map (some mi)) (.agg #[.int .i64 n.op, .int .i64 s, .int .i64 n.a, .int .i64 n.b, .int .i64 n.c, .int .i64 n.p, .int .i64 n.q, .int .i64 n.w, .int .u64 n.lo, .int .u64 n.hi, .string n.nm]) true).run Tryz.prog x = .ok (.tuple #[.int .i64 ((i : Int) + 1), .bool true]) x) := fun x hb => by
  obtain ⟨kl, hk⟩ := h.ids.keys _ (in_idL hi)
  exact (h.below hb).ids.yes nodeLaw idsUnder (zeroInt x) hk (in_idL hi) (idL_uniq h.inv hi)
 clear h hs hf hi c0 c1
 go_enter Tryz.func22, Tryz.ntmps22
 go_wp2_with fail
 refine (HSO.out _ (by go_grown)).mono ?_
 rintro e wz ⟨rfl, hb⟩
 have hB : Below w.heap.size w wz := Below.trans (by go_grown) (hb.mono (by simp))
 have hc := box_cells hb
 have k0 : wz.cell? ⟨w.heap.size, 0, none⟩ = some (.int .i64 n.op) := hc 0 _ rfl
 have k1 : wz.cell? ⟨w.heap.size, 1, none⟩ = some (.int .i64 n.s) := hc 1 _ rfl
 have k2 : wz.cell? ⟨w.heap.size, 2, none⟩ = some (.int .i64 n.a) := hc 2 _ rfl
 have k3 : wz.cell? ⟨w.heap.size, 3, none⟩ = some (.int .i64 n.b) := hc 3 _ rfl
 have k4 : wz.cell? ⟨w.heap.size, 4, none⟩ = some (.int .i64 n.c) := hc 4 _ rfl
 have k5 : wz.cell? ⟨w.heap.size, 5, none⟩ = some (.int .i64 n.p) := hc 5 _ rfl
 have k6 : wz.cell? ⟨w.heap.size, 6, none⟩ = some (.int .i64 n.q) := hc 6 _ rfl
 have k7 : wz.cell? ⟨w.heap.size, 7, none⟩ = some (.int .i64 n.w) := hc 7 _ rfl
 have k8 : wz.cell? ⟨w.heap.size, 8, none⟩ = some (.int .u64 n.lo) := hc 8 _ rfl
 have k9 : wz.cell? ⟨w.heap.size, 9, none⟩ = some (.int .u64 n.hi) := hc 9 _ rfl
 have k10 : wz.cell? ⟨w.heap.size, 10, none⟩ = some (.string n.nm) := hc 10 _ rfl
 have kf : wz.frozen? ⟨w.heap.size, 1, none⟩ = false := by rw [hb.frozen (p := ⟨w.heap.size, 1, none⟩) (by simp)]; simp
 have hsz : w.heap.size < wz.heap.size := by have := hb.size; simp at this; omega
 clear hb hc
 go_wp2_with fail
 go_region_held3 (fun x => x.cell? ⟨g, 2, none⟩ = some (.map (some mi)) ∧ (Instr.lookup 88 (.map (some mi)) (.agg #[.int .i64 n.op, .int .i64 s, .int .i64 n.a, .int .i64 n.b, .int .i64 n.c, .int .i64 n.p, .int .i64 n.q, .int .i64 n.w, .int .u64 n.lo, .int .u64 n.hi, .string n.nm]) true).run Tryz.prog x = .ok (.tuple #[.int .i64 ((i : Int) + 1), .bool true]) x ∧ x.cell? ⟨w.heap.size, 0, none⟩ = some (.int .i64 n.op) ∧ x.cell? ⟨w.heap.size, 1, none⟩ = some (.int .i64 s) ∧ x.cell? ⟨w.heap.size, 2, none⟩ = some (.int .i64 n.a) ∧ x.cell? ⟨w.heap.size, 3, none⟩ = some (.int .i64 n.b) ∧ x.cell? ⟨w.heap.size, 4, none⟩ = some (.int .i64 n.c) ∧ x.cell? ⟨w.heap.size, 5, none⟩ = some (.int .i64 n.p) ∧ x.cell? ⟨w.heap.size, 6, none⟩ = some (.int .i64 n.q) ∧ x.cell? ⟨w.heap.size, 7, none⟩ = some (.int .i64 n.w) ∧ x.cell? ⟨w.heap.size, 8, none⟩ = some (.int .u64 n.lo) ∧ x.cell? ⟨w.heap.size, 9, none⟩ = some (.int .u64 n.hi) ∧ x.cell? ⟨w.heap.size, 10, none⟩ = some (.string n.nm))
  ((refine ⟨bel_cell (by go_grown) hg c2, HL.out _ (by go_grown), ?_, ?_, ?_, ?_, ?_, ?_, ?_, ?_, ?_, ?_, ?_⟩ <;> simp [go_sem, k0, k1, k2, k3, k4, k5, k6, k7, k8, k9, k10]))
  (fail)
 go_wp2_with fail
 refine bodyPost_ret (v := .tuple #[.int .i64 ((i : Int) + 1), .int .i64 0]) (by simp [results, Tryz.results22, go_sem]) rfl ?_
 exact ⟨rfl, by go_grown⟩
theorem mk_full {w : World} {B g mi mv mo : Nat} {v : Value} {ns : List Nd} (h : Gr w B g mi mv v mo ns) {n : Nd} {s : Int} (hf : Fi n) (hs : srtOf ns n = (s, 0)) (hno : n.wi s ∉ ns) {kl : Lit} (hkey : keyOf Tryz.prog 53 (n.wi s).val = some kl) (hfull : ns.length = mo) :
  Rt 22 #[.pointer (some ⟨g, 0, none⟩), .agg #[.int .i64 n.op, .int .i64 n.s, .int .i64 n.a, .int .i64 n.b, .int .i64 n.c, .int .i64 n.p, .int .i64 n.q, .int .i64 n.w, .int .u64 n.lo, .int .u64 n.hi, .string n.nm]] w (.tuple #[.int .i64 0, .int .i64 33]) := by
 have HSO : Hid (∀ wx, Below w.heap.size w wx → Rt 43 #[.pointer (some ⟨g, 0, none⟩), .agg #[.int .i64 n.op, .int .i64 n.s, .int .i64 n.a, .int .i64 n.b, .int .i64 n.c, .int .i64 n.p, .int .i64 n.q, .int .i64 n.w, .int .u64 n.lo, .int .u64 n.hi, .string n.nm]] wx (.tuple #[.int .i64 s, .int .i64 0])) := fun wx hb => by have := sortOf_any (h.below hb) hf; rw [hs] at this; exact this
 have c0 := h.c0
 have c1 := h.c1
 have c2 := h.c2
 have hg := h.lt
 have HL : Hid (∀ x, Below w.heap.size w x → (Instr.lookup 88 (.map (some mi)) (.agg #[.int .i64 n.op, .int .i64 s, .int .i64 n.a, .int .i64 n.b, .int .i64 n.c, .int .i64 n.p, .int .i64 n.q, .int .i64 n.w, .int .u64 n.lo, .int .u64 n.hi, .string n.nm]) true).run Tryz.prog x = .ok (.tuple #[.int .i64 0, .bool false]) x) := fun x hb =>
  (h.below hb).ids.no nodeLaw idsUnder (zeroInt x) hkey (fun p hp e => by
   obtain ⟨j, m, hj, rfl⟩ := mem_idL hp
   have : m = n.wi s := Nd.val_inj e
   exact hno (this ▸ List.mem_of_getElem? hj))
 obtain ⟨ad, cap, rfl⟩ := h.sl
 have hne : ((ns.length : Int) == (mo : Int)) = true := by simp [hfull]
 obtain ⟨N, hN⟩ : ∃ N, N = ns.length := ⟨_, rfl⟩
 rw [← hN] at c1 hne
 clear h hs hf hno hkey hfull hN
 go_enter Tryz.func22, Tryz.ntmps22
 go_wp2_with fail
 refine (HSO.out _ (by go_grown)).mono ?_
 rintro e wz ⟨rfl, hb⟩
 have hB : Below w.heap.size w wz := Below.trans (by go_grown) (hb.mono (by simp))
 have hc := box_cells hb
 have k0 : wz.cell? ⟨w.heap.size, 0, none⟩ = some (.int .i64 n.op) := hc 0 _ rfl
 have k1 : wz.cell? ⟨w.heap.size, 1, none⟩ = some (.int .i64 n.s) := hc 1 _ rfl
 have k2 : wz.cell? ⟨w.heap.size, 2, none⟩ = some (.int .i64 n.a) := hc 2 _ rfl
 have k3 : wz.cell? ⟨w.heap.size, 3, none⟩ = some (.int .i64 n.b) := hc 3 _ rfl
 have k4 : wz.cell? ⟨w.heap.size, 4, none⟩ = some (.int .i64 n.c) := hc 4 _ rfl
 have k5 : wz.cell? ⟨w.heap.size, 5, none⟩ = some (.int .i64 n.p) := hc 5 _ rfl
 have k6 : wz.cell? ⟨w.heap.size, 6, none⟩ = some (.int .i64 n.q) := hc 6 _ rfl
 have k7 : wz.cell? ⟨w.heap.size, 7, none⟩ = some (.int .i64 n.w) := hc 7 _ rfl
 have k8 : wz.cell? ⟨w.heap.size, 8, none⟩ = some (.int .u64 n.lo) := hc 8 _ rfl
 have k9 : wz.cell? ⟨w.heap.size, 9, none⟩ = some (.int .u64 n.hi) := hc 9 _ rfl
 have k10 : wz.cell? ⟨w.heap.size, 10, none⟩ = some (.string n.nm) := hc 10 _ rfl
 have kf : wz.frozen? ⟨w.heap.size, 1, none⟩ = false := by rw [hb.frozen (p := ⟨w.heap.size, 1, none⟩) (by simp)]; simp
 have hsz : w.heap.size < wz.heap.size := by have := hb.size; simp at this; omega
 clear hb hc
 go_wp2_with fail
 go_region_held3 (fun x => x.cell? ⟨g, 2, none⟩ = some (.map (some mi)) ∧ (Instr.lookup 88 (.map (some mi)) (.agg #[.int .i64 n.op, .int .i64 s, .int .i64 n.a, .int .i64 n.b, .int .i64 n.c, .int .i64 n.p, .int .i64 n.q, .int .i64 n.w, .int .u64 n.lo, .int .u64 n.hi, .string n.nm]) true).run Tryz.prog x = .ok (.tuple #[.int .i64 0, .bool false]) x ∧ x.cell? ⟨w.heap.size, 0, none⟩ = some (.int .i64 n.op) ∧ x.cell? ⟨w.heap.size, 1, none⟩ = some (.int .i64 s) ∧ x.cell? ⟨w.heap.size, 2, none⟩ = some (.int .i64 n.a) ∧ x.cell? ⟨w.heap.size, 3, none⟩ = some (.int .i64 n.b) ∧ x.cell? ⟨w.heap.size, 4, none⟩ = some (.int .i64 n.c) ∧ x.cell? ⟨w.heap.size, 5, none⟩ = some (.int .i64 n.p) ∧ x.cell? ⟨w.heap.size, 6, none⟩ = some (.int .i64 n.q) ∧ x.cell? ⟨w.heap.size, 7, none⟩ = some (.int .i64 n.w) ∧ x.cell? ⟨w.heap.size, 8, none⟩ = some (.int .u64 n.lo) ∧ x.cell? ⟨w.heap.size, 9, none⟩ = some (.int .u64 n.hi) ∧ x.cell? ⟨w.heap.size, 10, none⟩ = some (.string n.nm))
  ((refine ⟨bel_cell (by go_grown) hg c2, HL.out _ (by go_grown), ?_, ?_, ?_, ?_, ?_, ?_, ?_, ?_, ?_, ?_, ?_⟩ <;> simp [go_sem, k0, k1, k2, k3, k4, k5, k6, k7, k8, k9, k10]))
  (fail)
 go_wp2_with fail
 go_region_held3 (fun x => x.cell? ⟨g, 1, none⟩ = some (.slice ad N cap) ∧ x.cell? ⟨g, 0, none⟩ = some (.int .i64 (mo : Int)))
  (exact ⟨bel_cell (by go_grown) hg c1, bel_cell (by go_grown) hg c0⟩)
  (fail)
 go_wp2_with fail
 refine bodyPost_ret (v := .tuple #[.int .i64 0, .int .i64 33]) (by simp [results, Tryz.results22, go_sem]) rfl ?_
 exact ⟨rfl, by go_grown⟩
theorem mk_new {w : World} {B g mi mv mo : Nat} {v : Value} {ns : List Nd} (h : Gr w B g mi mv v mo ns) {n : Nd} {s : Int} (hf : Fi n) (hs : srtOf ns n = (s, 0)) (hno : n.wi s ∉ ns) {kl : Lit} (hkey : keyOf Tryz.prog 53 (n.wi s).val = some kl) (hlt : ns.length < mo) (hBw : B ≤ w.heap.size) :
  Calls Tryz.prog 22 #[.pointer (some ⟨g, 0, none⟩), .agg #[.int .i64 n.op, .int .i64 n.s, .int .i64 n.a, .int .i64 n.b, .int .i64 n.c, .int .i64 n.p, .int .i64 n.q, .int .i64 n.w, .int .u64 n.lo, .int .u64 n.hi, .string n.nm]] w fun e w' => e = .returned (.tuple #[.int .i64 ((ns.length : Int) + 1), .int .i64 0]) ∧ ∃ v', Gr w' B g mi mv v' mo (ns ++ [n.wi s]) ∧ Chg w w' g mi mv v ∧ (v'.ownBlock = v.ownBlock ∨ ∃ b, v'.ownBlock = some b ∧ w.heap.size ≤ b) := by
 have HSO : Hid (∀ wx, Below w.heap.size w wx → Rt 43 #[.pointer (some ⟨g, 0, none⟩), .agg #[.int .i64 n.op, .int .i64 n.s, .int .i64 n.a, .int .i64 n.b, .int .i64 n.c, .int .i64 n.p, .int .i64 n.q, .int .i64 n.w, .int .u64 n.lo, .int .u64 n.hi, .string n.nm]] wx (.tuple #[.int .i64 s, .int .i64 0])) := fun wx hb => by have := sortOf_any (h.below hb) hf; rw [hs] at this; exact this
 have c0 := h.c0
 have c1 := h.c1
 have c2 := h.c2
 have hg := h.lt
 have HL : Hid (∀ x, Below w.heap.size w x → (Instr.lookup 88 (.map (some mi)) (.agg #[.int .i64 n.op, .int .i64 s, .int .i64 n.a, .int .i64 n.b, .int .i64 n.c, .int .i64 n.p, .int .i64 n.q, .int .i64 n.w, .int .u64 n.lo, .int .u64 n.hi, .string n.nm]) true).run Tryz.prog x = .ok (.tuple #[.int .i64 0, .bool false]) x) := fun x hb =>
  (h.below hb).ids.no nodeLaw idsUnder (zeroInt x) hkey (fun p hp e => by
   obtain ⟨j, m, hj, rfl⟩ := mem_idL hp
   have : m = n.wi s := Nd.val_inj e
   exact hno (this ▸ List.mem_of_getElem? hj))
 have HAD : Hid (∀ wx, Below w.heap.size w wx → Calls Tryz.prog 44 #[.pointer (some ⟨g, 0, none⟩), .agg #[.int .i64 n.op, .int .i64 s, .int .i64 n.a, .int .i64 n.b, .int .i64 n.c, .int .i64 n.p, .int .i64 n.q, .int .i64 n.w, .int .u64 n.lo, .int .u64 n.hi, .string n.nm]] wx fun e w' => e = .returned (.int .i64 ((ns.length : Int) + 1)) ∧ ∃ v', Gr w' B g mi mv v' mo (ns ++ [n.wi s]) ∧ Chg w w' g mi mv v ∧ (v'.ownBlock = v.ownBlock ∨ ∃ b, v'.ownBlock = some b ∧ w.heap.size ≤ b)) := fun wx hb => by
  refine (gadd_any (n := n.wi s) (h.below hb) hlt (inv_snoc h.inv hs hno) hkey hf.nm (Nat.le_trans hBw hb.size)).mono ?_
  rintro e w' ⟨he, v', hG, hC, hv⟩
  refine ⟨he, v', hG, ⟨hC.os.trans hb.os, hC.tape.trans hb.tape, hC.output.trans hb.output, Nat.le_trans hb.size hC.size, fun k k1 k2 k3 k4 k5 => (hC.block k (Nat.lt_of_lt_of_le k1 hb.size) k2 k3 k4 k5).trans (hb.block k k1)⟩, ?_⟩
  rcases hv with e | ⟨b, e, hb'⟩
  ·exact Or.inl e
  ·exact Or.inr ⟨b, e, Nat.le_trans hb.size hb'⟩
 obtain ⟨ad, cap, rfl⟩ := h.sl
 have hne : ((ns.length : Int) == (mo : Int)) = false := by simp; omega
 obtain ⟨N, hN⟩ : ∃ N, N = ns.length := ⟨_, rfl⟩
 rw [← hN] at c1 hne
 clear h hs hf hno hkey hlt hN
 go_enter Tryz.func22, Tryz.ntmps22
 go_wp2_with fail
 refine (HSO.out _ (by go_grown)).mono ?_
 rintro e wz ⟨rfl, hb⟩
 have hB : Below w.heap.size w wz := Below.trans (by go_grown) (hb.mono (by simp))
 have hc := box_cells hb
 have k0 : wz.cell? ⟨w.heap.size, 0, none⟩ = some (.int .i64 n.op) := hc 0 _ rfl
 have k1 : wz.cell? ⟨w.heap.size, 1, none⟩ = some (.int .i64 n.s) := hc 1 _ rfl
 have k2 : wz.cell? ⟨w.heap.size, 2, none⟩ = some (.int .i64 n.a) := hc 2 _ rfl
 have k3 : wz.cell? ⟨w.heap.size, 3, none⟩ = some (.int .i64 n.b) := hc 3 _ rfl
 have k4 : wz.cell? ⟨w.heap.size, 4, none⟩ = some (.int .i64 n.c) := hc 4 _ rfl
 have k5 : wz.cell? ⟨w.heap.size, 5, none⟩ = some (.int .i64 n.p) := hc 5 _ rfl
 have k6 : wz.cell? ⟨w.heap.size, 6, none⟩ = some (.int .i64 n.q) := hc 6 _ rfl
 have k7 : wz.cell? ⟨w.heap.size, 7, none⟩ = some (.int .i64 n.w) := hc 7 _ rfl
 have k8 : wz.cell? ⟨w.heap.size, 8, none⟩ = some (.int .u64 n.lo) := hc 8 _ rfl
 have k9 : wz.cell? ⟨w.heap.size, 9, none⟩ = some (.int .u64 n.hi) := hc 9 _ rfl
 have k10 : wz.cell? ⟨w.heap.size, 10, none⟩ = some (.string n.nm) := hc 10 _ rfl
 have kf : wz.frozen? ⟨w.heap.size, 1, none⟩ = false := by rw [hb.frozen (p := ⟨w.heap.size, 1, none⟩) (by simp)]; simp
 have hsz : w.heap.size < wz.heap.size := by have := hb.size; simp at this; omega
 clear hb hc
 go_wp2_with fail
 go_region_held3 (fun x => x.cell? ⟨g, 2, none⟩ = some (.map (some mi)) ∧ (Instr.lookup 88 (.map (some mi)) (.agg #[.int .i64 n.op, .int .i64 s, .int .i64 n.a, .int .i64 n.b, .int .i64 n.c, .int .i64 n.p, .int .i64 n.q, .int .i64 n.w, .int .u64 n.lo, .int .u64 n.hi, .string n.nm]) true).run Tryz.prog x = .ok (.tuple #[.int .i64 0, .bool false]) x ∧ x.cell? ⟨w.heap.size, 0, none⟩ = some (.int .i64 n.op) ∧ x.cell? ⟨w.heap.size, 1, none⟩ = some (.int .i64 s) ∧ x.cell? ⟨w.heap.size, 2, none⟩ = some (.int .i64 n.a) ∧ x.cell? ⟨w.heap.size, 3, none⟩ = some (.int .i64 n.b) ∧ x.cell? ⟨w.heap.size, 4, none⟩ = some (.int .i64 n.c) ∧ x.cell? ⟨w.heap.size, 5, none⟩ = some (.int .i64 n.p) ∧ x.cell? ⟨w.heap.size, 6, none⟩ = some (.int .i64 n.q) ∧ x.cell? ⟨w.heap.size, 7, none⟩ = some (.int .i64 n.w) ∧ x.cell? ⟨w.heap.size, 8, none⟩ = some (.int .u64 n.lo) ∧ x.cell? ⟨w.heap.size, 9, none⟩ = some (.int .u64 n.hi) ∧ x.cell? ⟨w.heap.size, 10, none⟩ = some (.string n.nm))
  ((refine ⟨bel_cell (by go_grown) hg c2, HL.out _ (by go_grown), ?_, ?_, ?_, ?_, ?_, ?_, ?_, ?_, ?_, ?_, ?_⟩ <;> simp [go_sem, k0, k1, k2, k3, k4, k5, k6, k7, k8, k9, k10]))
  (fail)
 go_wp2_with fail
 go_region_held3 (fun x => x.cell? ⟨g, 1, none⟩ = some (.slice ad N cap) ∧ x.cell? ⟨g, 0, none⟩ = some (.int .i64 (mo : Int)))
  (exact ⟨bel_cell (by go_grown) hg c1, bel_cell (by go_grown) hg c0⟩)
  (fail)
 go_wp2_with fail
 refine (HAD.out _ (by go_grown)).mono ?_
 rintro e w2 ⟨rfl, hR⟩
 have HR : Hid _ := hR
 clear hR
 go_wp2_with fail
 refine bodyPost_ret (v := .tuple #[.int .i64 ((ns.length : Int) + 1), .int .i64 0]) (by simp [results, Tryz.results22, go_sem]) rfl ?_
 exact ⟨rfl, HR.out⟩
open Go.RowKit
def w64 (x : Int) : Prop := -9223372036854775808 ≤ x ∧ x ≤ 9223372036854775807
theorem wf64 {x : Int} (h : w64 x) : (Lit.int .i64 x).wf = true := by
 unfold w64 at h
 simp only [Lit.wf, IntKind.min, IntKind.max, IntKind.signed, IntKind.bits, Bool.and_eq_true, decide_eq_true_eq, if_true]
 omega
theorem wfu {x : Int} (h0 : 0 ≤ x) (h1 : x < 18446744073709551616) : (Lit.int .u64 x).wf = true := by
 simp only [Lit.wf, IntKind.min, IntKind.max, IntKind.signed, IntKind.bits, Bool.and_eq_true, decide_eq_true_eq]
 simp
 omega
theorem kn_of {n : Nd} (h1 : w64 n.op) (h2 : w64 n.s) (h3 : w64 n.a) (h4 : w64 n.b) (h5 : w64 n.c) (h6 : w64 n.p) (h7 : w64 n.q) (h8 : w64 n.w) (l0 : 0 ≤ n.lo) (l1 : n.lo < 18446744073709551616) (u0 : 0 ≤ n.hi) (u1 : n.hi < 18446744073709551616) (hs : n.nm.size ≤ maxLen) :
  ∃ kl, keyOf Tryz.prog 53 n.val = some kl := by
 have g1 := wf64 h1
 have g2 := wf64 h2
 have g3 := wf64 h3
 have g4 := wf64 h4
 have g5 := wf64 h5
 have g6 := wf64 h6
 have g7 := wf64 h7
 have g8 := wf64 h8
 have g9 := wfu l0 l1
 have g10 := wfu u0 u1
 have hk : Tryz.prog.keyType 53 = true := by kernel_rfl
 have hfm : n.val.formed Tryz.prog 53 = true := by kernel_rfl
 have hc : ∀ t, Tryz.prog.cellsOf t = Tryz.prog.cellsOf t := fun _ => rfl
 have e3 : Tryz.prog.cellsOf 3 = 1 := by kernel_rfl
 have e9 : Tryz.prog.cellsOf 9 = 1 := by kernel_rfl
 have e32 : Tryz.prog.cellsOf 32 = 1 := by kernel_rfl
 have e34 : Tryz.prog.cellsOf 34 = 3 := by kernel_rfl
 have e36 : Tryz.prog.cellsOf 53 = 11 := by kernel_rfl
 have hz : Tryz.prog.types.size + 1 = 169 + 1 + 1 + 1 := by kernel_rfl
 have q3 : ∀ (d : Nat) (x : Int), (Lit.int .i64 x).wf = true → Tryz.prog.keyLits (d + 1) 3 [.int .i64 x] = some [.int .i64 x] := fun d x hx => by
  unfold Program.keyLits; simp only [Tryz.underlying3]; simp [hx]
 have q32 : ∀ (d : Nat) (x : Int), (Lit.int .u64 x).wf = true → Tryz.prog.keyLits (d + 1) 32 [.int .u64 x] = some [.int .u64 x] := fun d x hx => by
  unfold Program.keyLits; simp only [Tryz.underlying32]; simp [hx]
 have q9 : ∀ (d : Nat) (x : ByteArray), x.size ≤ maxLen → Tryz.prog.keyLits (d + 1) 9 [.string x] = some [.string x.data.toList] := fun d x hx => by
  unfold Program.keyLits; simp only [Tryz.underlying9]; simp [hx]
 have q34 : ∀ (d : Nat), ∃ L, Tryz.prog.keyLits (d + 1 + 1) 34 [.int .i64 n.w, .int .u64 n.lo, .int .u64 n.hi] = some L := fun d => by
  unfold Program.keyLits; simp only [Tryz.underlying34]
  simp [e34, e3, e32, q3 d n.w g8, q32 d n.lo g9, q32 d n.hi g10]
 obtain ⟨L, hL'⟩ := q34 169
 have hL : Tryz.prog.keyLits 171 34 [.int .i64 n.w, .int .u64 n.lo, .int .u64 n.hi] = some L := hL'
 have hmain : ∃ ls, Tryz.prog.keyLits (Tryz.prog.types.size + 1) 53 n.val.cells.toList = some ls := by
  rw [hz]; unfold Program.keyLits; simp only [Tryz.underlying53]
  simp [Nd.val, Value.cells, e36, e34, e3, e9, q3 _ n.op g1, q3 _ n.s g2, q3 _ n.a g3, q3 _ n.b g4, q3 _ n.c g5, q3 _ n.p g6, q3 _ n.q g7, q9 _ n.nm hs, hL]
 obtain ⟨ls, hls⟩ := hmain
 unfold keyOf
 simp only [Tryz.underlying53, hk, hfm, Bool.and_self, if_true, hls, Option.map_some]
 exact ⟨_, rfl⟩
open Go.RowKit
open Go.RowKit
theorem Chg.low {w w' : World} {B g mi mv mo : Nat} {v : Value} {ns : List Nd} (hG : Gr w B g mi mv v mo ns) (hB : B ≤ w.heap.size) (hC : Chg w w' g mi mv v) : Below B w w' :=
 ⟨hC.os, hC.tape, hC.output, hC.size, fun k hk => hC.block k (by omega) (by have := hG.bg; omega) (by have := hG.bi; omega) (by have := hG.bv; omega) (fun e => by have := (hG.row.lt k e.symm).1; omega)⟩
theorem n12 : N2 ∉ [N1] := by intro h; have := List.mem_singleton.1 h; simp [N1, N2] at this
theorem kN1 : ∃ kl, keyOf Tryz.prog 53 N1.val = some kl := by
 refine kn_of ?_ ?_ ?_ ?_ ?_ ?_ ?_ ?_ ?_ ?_ ?_ ?_ ?_ <;> first | decide | (unfold w64; decide)
theorem kN2 : ∃ kl, keyOf Tryz.prog 53 N2.val = some kl := by
 refine kn_of ?_ ?_ ?_ ?_ ?_ ?_ ?_ ?_ ?_ ?_ ?_ ?_ ?_ <;> first | decide | (unfold w64; decide)
theorem fiOf {n : Nd} (h1 : n.lo = 0) (h2 : n.hi = 0) (h3 : n.nm.size ≤ 1) : Fi n := ⟨by omega, by omega, by omega, by omega, by unfold maxLen; omega⟩
theorem so1 : srtOf [] (⟨2, 4, 0, 0, 0, 0, 0, 0, 0, 0, ⟨#[120]⟩⟩ : Nd) = (4, 0) := by decide
theorem so2 : srtOf [N1] (⟨18, 0, 1, 1, 0, 0, 0, 0, 0, 0, ⟨#[]⟩⟩ : Nd) = (4, 0) := by decide
open Go.RowKit
theorem opB_more {N M : Nat} {k j x : Int} (h : N ≤ M) (ho : opB N k j x = true) : opB M k j x = true := by
 unfold opB at ho ⊢
 split
 ·rename_i hj
  rw [if_pos hj] at ho
  have : 1 ≤ x ∧ x ≤ (N : Int) := by simpa [hasB] using ho
  simp [hasB]
  omega
 ·rename_i hj
  rw [if_neg hj] at ho
  exact ho
theorem prt_more {N M : Nat} {n : Nd} (h : N ≤ M) (hp : prt N n = true) : prt M n = true := by
 rw [prt_eq rfl] at hp ⊢
 simp only [Bool.and_eq_true] at hp ⊢
 obtain ⟨⟨⟨⟨⟨h0, ha⟩, hb⟩, hc⟩, hv⟩, hn⟩ := hp
 exact ⟨⟨⟨⟨⟨h0, opB_more h ha⟩, opB_more h hb⟩, opB_more h hc⟩, hv⟩, hn⟩
theorem sAt_more {ns r : List Nd} {x : Int} (h : hasB ns.length x = true) : sAt (ns ++ r) x = sAt ns x := by
 obtain ⟨i, m, hi, rfl⟩ := has_node h
 have hl : i < ns.length := (List.getElem?_eq_some_iff.1 hi).1
 rw [sAt_of hi, sAt_of (by rw [List.getElem?_append_left hl]; exact hi)]
theorem oss_more {ns r : List Nd} {n : Nd} (hp : prt ns.length n = true) : oss (ns ++ r) n = oss ns n := by
 have h3 := ari_le n.op
 rw [prt_eq rfl] at hp
 simp only [Bool.and_eq_true, decide_eq_true_eq] at hp
 obtain ⟨⟨⟨⟨⟨h0, ha⟩, hb⟩, hc⟩, -⟩, -⟩ := hp
 unfold oss
 have hx : ari n.op = 0 ∨ ari n.op = 1 ∨ ari n.op = 2 ∨ ari n.op = 3 := by omega
 rcases hx with e | e | e | e
 ·rw [e]; rfl
 ·rw [e] at ha ⊢
  have ha' : hasB ns.length n.a = true := by rw [opB, if_pos (by decide)] at ha; exact ha
  show [sAt (ns ++ r) n.a] = [sAt ns n.a]
  rw [sAt_more ha']
 ·rw [e] at ha hb ⊢
  have ha' : hasB ns.length n.a = true := by rw [opB, if_pos (by decide)] at ha; exact ha
  have hb' : hasB ns.length n.b = true := by rw [opB, if_pos (by decide)] at hb; exact hb
  show [sAt (ns ++ r) n.a, sAt (ns ++ r) n.b] = [sAt ns n.a, sAt ns n.b]
  rw [sAt_more ha', sAt_more hb']
 ·rw [e] at ha hb hc ⊢
  have ha' : hasB ns.length n.a = true := by rw [opB, if_pos (by decide)] at ha; exact ha
  have hb' : hasB ns.length n.b = true := by rw [opB, if_pos (by decide)] at hb; exact hb
  have hc' : hasB ns.length n.c = true := by rw [opB, if_pos (by decide)] at hc; exact hc
  show [sAt (ns ++ r) n.a, sAt (ns ++ r) n.b, sAt (ns ++ r) n.c] = [sAt ns n.a, sAt ns n.b, sAt ns n.c]
  rw [sAt_more ha', sAt_more hb', sAt_more hc']
open Go.RowKit
def Ln (w : World) (g o : Nat) (l : List Nd) : Prop := ∀ (j : Nat) (n : Nd), l[j]? = some n → ∀ t u, n.cs[t]? = some u → w.cell? ⟨g, o + j * 11 + t, none⟩ = some u
def litB (l : List Nd) : Bool := decide (l.length ≤ 200) && l.all fun n => decide (n.nm.size ≤ 100)
open Go.RowKit
structure Ok (n : Nd) : Prop where
 fi : Fi n
 op : w64 n.op
 s : w64 n.s
 a : w64 n.a
 b : w64 n.b
 c : w64 n.c
 p : w64 n.p
 q : w64 n.q
 w : w64 n.w
inductive Mkd (mo : Nat) (ns : List Nd) (n : Nd) : Int → Int → List Nd → Prop
 | err {s er : Int} : srtOf ns n = (s, er) → ¬ er = 0 → Mkd mo ns n 0 er ns
 | old {s : Int} {i : Nat} : srtOf ns n = (s, 0) → ns[i]? = some (n.wi s) → Mkd mo ns n ((i : Int) + 1) 0 ns
 | full {s : Int} : srtOf ns n = (s, 0) → n.wi s ∉ ns → ns.length = mo → Mkd mo ns n 0 33 ns
 | new {s : Int} : srtOf ns n = (s, 0) → n.wi s ∉ ns → ns.length < mo → Mkd mo ns n ((ns.length : Int) + 1) 0 (ns ++ [n.wi s])
theorem mkd_any (mo : Nat) (ns : List Nd) (n : Nd) (h : ns.length ≤ mo) : ∃ id er ns', Mkd mo ns n id er ns' := by
 obtain ⟨s, hs⟩ : ∃ s, s = (srtOf ns n).1 := ⟨_, rfl⟩
 obtain ⟨er, he⟩ : ∃ er, er = (srtOf ns n).2 := ⟨_, rfl⟩
 have h0 : srtOf ns n = (s, er) := by rw [hs, he]
 by_cases hz : er = 0
 ·subst hz
  by_cases hm : n.wi s ∈ ns
  ·obtain ⟨i, hi, e⟩ := List.getElem_of_mem hm
   exact ⟨_, _, _, .old h0 (by rw [List.getElem?_eq_getElem hi, e])⟩
  ·by_cases hl : ns.length = mo
   ·exact ⟨_, _, _, .full h0 hm hl⟩
   ·exact ⟨_, _, _, .new h0 hm (by omega)⟩
 ·exact ⟨_, _, _, .err h0 hz⟩
theorem Chg.of {w w' : World} {g mi mv : Nat} {v : Value} (h : Below w.heap.size w w') : Chg w w' g mi mv v := ⟨h.os, h.tape, h.output, h.size, fun k hk _ _ _ _ => h.block k hk⟩
theorem key_of {ns : List Nd} {n : Nd} {s : Int} (hv : Inv ns) (ho : Ok n) (hs : srtOf ns n = (s, 0)) (hno : n.wi s ∉ ns) : ∃ kl, keyOf Tryz.prog 53 (n.wi s).val = some kl := by
 have h := (inv_snoc hv hs hno).sorts (n.wi s) (by simp)
 have hs' : w64 s := by
  have h1 : 0 ≤ s ∧ s ≤ 128 := h
  unfold w64; omega
 exact kn_of (n := n.wi s) ho.op hs' ho.a ho.b ho.c ho.p ho.q ho.w ho.fi.l0 ho.fi.l1 ho.fi.h0 ho.fi.h1 ho.fi.nm
theorem mk_any {w : World} {B g mi mv mo : Nat} {v : Value} {ns ns' : List Nd} {n : Nd} {id er : Int} (h : Gr w B g mi mv v mo ns) (ho : Ok n) (hM : Mkd mo ns n id er ns') (hBw : B ≤ w.heap.size) :
  Calls Tryz.prog 22 #[.pointer (some ⟨g, 0, none⟩), .agg #[.int .i64 n.op, .int .i64 n.s, .int .i64 n.a, .int .i64 n.b, .int .i64 n.c, .int .i64 n.p, .int .i64 n.q, .int .i64 n.w, .int .u64 n.lo, .int .u64 n.hi, .string n.nm]] w fun e w' => e = .returned (.tuple #[.int .i64 id, .int .i64 er]) ∧ ∃ v', Gr w' B g mi mv v' mo ns' ∧ Chg w w' g mi mv v ∧ (v'.ownBlock = v.ownBlock ∨ ∃ b, v'.ownBlock = some b ∧ w.heap.size ≤ b) := by
 cases hM with
 | err hs he =>
  refine (mk_err h ho.fi hs he).mono ?_
  rintro e w' ⟨he, hb⟩
  exact ⟨he, v, h.below hb, Chg.of hb, Or.inl rfl⟩
 | old hs hi =>
  refine (mk_old h ho.fi hs hi).mono ?_
  rintro e w' ⟨he, hb⟩
  exact ⟨he, v, h.below hb, Chg.of hb, Or.inl rfl⟩
 | full hs hno hl =>
  obtain ⟨kl, hk⟩ := key_of h.inv ho hs hno
  refine (mk_full h ho.fi hs hno hk hl).mono ?_
  rintro e w' ⟨he, hb⟩
  exact ⟨he, v, h.below hb, Chg.of hb, Or.inl rfl⟩
 | new hs hno hl =>
  obtain ⟨kl, hk⟩ := key_of h.inv ho hs hno
  exact mk_new h ho.fi hs hno hk hl hBw
def Got (ns : List Nd) (n : Nd) (x : Int) : Prop := x = 0 ∨ ∃ (s : Int) (i : Nat), x = (i : Int) + 1 ∧ ns[i]? = some (n.wi s) ∧ srtOf ns n = (s, 0)
theorem ne_nd {n m : Nd} (h : n ≠ m) (w : World) : (binOp .eql 53 (.agg #[.int .i64 n.op, .int .i64 n.s, .int .i64 n.a, .int .i64 n.b, .int .i64 n.c, .int .i64 n.p, .int .i64 n.q, .int .i64 n.w, .int .u64 n.lo, .int .u64 n.hi, .string n.nm]) (.agg #[.int .i64 m.op, .int .i64 m.s, .int .i64 m.a, .int .i64 m.b, .int .i64 m.c, .int .i64 m.p, .int .i64 m.q, .int .i64 m.w, .int .u64 m.lo, .int .u64 m.hi, .string m.nm])).run Tryz.prog w = .ok (.bool false) w := by
 by_cases h1 : n.op = m.op
 ·by_cases h2 : n.s = m.s
  ·by_cases h3 : n.a = m.a
   ·by_cases h4 : n.b = m.b
    ·by_cases h5 : n.c = m.c
     ·by_cases h6 : n.p = m.p
      ·by_cases h7 : n.q = m.q
       ·by_cases h8 : n.w = m.w
        ·by_cases h9 : n.lo = m.lo
         ·by_cases h10 : n.hi = m.hi
          ·by_cases h11 : n.nm = m.nm
           ·exact absurd (by cases n; cases m; simp_all) h
           ·have h12 : ¬ n.nm.data = m.nm.data := fun e => h11 (Go.WideShapes.bytes_inj (by rw [e]))
            simp [go_sem, h1, h2, h3, h4, h5, h6, h7, h8, h9, h10, ByteArray.toList_eq, h12]
          ·simp [go_sem, h1, h2, h3, h4, h5, h6, h7, h8, h9, h10]
         ·simp [go_sem, h1, h2, h3, h4, h5, h6, h7, h8, h9]
        ·simp [go_sem, h1, h2, h3, h4, h5, h6, h7, h8]
       ·simp [go_sem, h1, h2, h3, h4, h5, h6, h7]
      ·simp [go_sem, h1, h2, h3, h4, h5, h6]
     ·simp [go_sem, h1, h2, h3, h4, h5]
    ·simp [go_sem, h1, h2, h3, h4]
   ·simp [go_sem, h1, h2, h3]
  ·simp [go_sem, h1, h2]
 ·simp [go_sem, h1]
theorem same_nd (n : Nd) (w : World) : (binOp .eql 53 (.agg #[.int .i64 n.op, .int .i64 n.s, .int .i64 n.a, .int .i64 n.b, .int .i64 n.c, .int .i64 n.p, .int .i64 n.q, .int .i64 n.w, .int .u64 n.lo, .int .u64 n.hi, .string n.nm]) (.agg #[.int .i64 n.op, .int .i64 n.s, .int .i64 n.a, .int .i64 n.b, .int .i64 n.c, .int .i64 n.p, .int .i64 n.q, .int .i64 n.w, .int .u64 n.lo, .int .u64 n.hi, .string n.nm])).run Tryz.prog w = .ok (.bool true) w := by simp [go_sem]
def La (w : World) (a : Option Addr) (l : List Nd) : Prop := l = [] ∨ ∃ g o, a = some ⟨g, o, none⟩ ∧ g < w.heap.size ∧ Ln w g o l
theorem La.below {w wx : World} {a : Option Addr} {l : List Nd} (h : La w a l) (hb : Below w.heap.size w wx) : La wx a l := by
 rcases h with h | ⟨g, o, ha, hg, h⟩
 ·exact Or.inl h
 ·exact Or.inr ⟨g, o, ha, Nat.lt_of_lt_of_le hg hb.size, fun j n hj t u hu => by rw [hb.cell (p := ⟨g, o + j * 11 + t, none⟩) hg]; exact h j n hj t u hu⟩
end Go.Proofs.YtejljdbkocnhlaaGreat
namespace Go.Proofs.YtejljdbkocnhlaaGreat
set_option maxHeartbeats 12800000
set_option maxRecDepth 100000
set_option linter.unusedSimpArgs false
set_option linter.unusedVariables false
open Go.RowKit Go.ChangeShapes Go.WideShapes Go.Deep
section
variable {H : Type} {enc : TypeId × Value → H} {w : World} {base : Nat} {spare : Nat → Bool} {held : Bool}
instance : Inhabited Nd := ⟨⟨0, 0, 0, 0, 0, 0, 0, 0, 0, 0, ⟨#[]⟩⟩⟩
theorem w64_of {x : Int} (h : (Lit.int .i64 x).wf = true) : w64 x := by have := bounds_i64 h; unfold w64; omega
set_option maxRecDepth 20000 in
theorem node_read {fuel : Nat} {cs : List Value} {x : DataW H × List MemPlace} (h : DataW.trod enc Tryz.prog w base spare held fuel 53 cs = some x) : ∃ n : Nd, cs = n.cs ∧ Ok n := by
 obtain ⟨xs, k, -, -, hl, hxl, hf⟩ := DataW.trod_struct Tryz.underlying53 h
 have e3 : Tryz.prog.cellsOf 3 = 1 := by kernel_rfl
 have e9 : Tryz.prog.cellsOf 9 = 1 := by kernel_rfl
 have e32 : Tryz.prog.cellsOf 32 = 1 := by kernel_rfl
 have e34 : Tryz.prog.cellsOf 34 = 3 := by kernel_rfl
 have e36 : Tryz.prog.cellsOf 53 = 11 := by kernel_rfl
 rw [e36] at hl
 have hxl9 : xs.length = 9 := hxl
 clear hxl
 match xs, hxl9, cs, hl with
 | [y0, y1, y2, y3, y4, y5, y6, y7, y8], _, [v0, v1, v2, v3, v4, v5, v6, v7, v8, v9, v10], _ =>
  have g0 := hf 0 _ rfl
  have g1 := hf 1 _ rfl
  have g2 := hf 2 _ rfl
  have g3 := hf 3 _ rfl
  have g4 := hf 4 _ rfl
  have g5 := hf 5 _ rfl
  have g6 := hf 6 _ rfl
  have g7 := hf 7 _ rfl
  have g8 := hf 8 _ rfl
  simp [e3, e9, e34] at g0 g1 g2 g3 g4 g5 g6 g7 g8
  obtain ⟨a0, h0, -, w0⟩ := DataW.trod_int Tryz.underlying3 g0
  obtain ⟨a1, h1, -, w1⟩ := DataW.trod_int Tryz.underlying3 g1
  obtain ⟨a2, h2, -, w2⟩ := DataW.trod_int Tryz.underlying3 g2
  obtain ⟨a3, h3, -, w3⟩ := DataW.trod_int Tryz.underlying3 g3
  obtain ⟨a4, h4, -, w4⟩ := DataW.trod_int Tryz.underlying3 g4
  obtain ⟨a5, h5, -, w5⟩ := DataW.trod_int Tryz.underlying3 g5
  obtain ⟨a6, h6, -, w6⟩ := DataW.trod_int Tryz.underlying3 g6
  obtain ⟨s, h10, -, w10⟩ := DataW.trod_string Tryz.underlying9 g8
  obtain ⟨zs, k2, -, -, -, hzl, hz⟩ := DataW.trod_struct Tryz.underlying34 g7
  have hzl3 : zs.length = 3 := hzl
  clear hzl
  match zs, hzl3 with
  | [z0, z1, z2], _ =>
   have k0 := hz 0 _ rfl
   have k1 := hz 1 _ rfl
   have k2 := hz 2 _ rfl
   simp [e3, e32] at k0 k1 k2
   obtain ⟨a7, h7, -, w7⟩ := DataW.trod_int Tryz.underlying3 k0
   obtain ⟨a8, h8, -, w8⟩ := DataW.trod_int Tryz.underlying32 k1
   obtain ⟨a9, h9, -, w9⟩ := DataW.trod_int Tryz.underlying32 k2
   cases h0; cases h1; cases h2; cases h3; cases h4; cases h5; cases h6; cases h7; cases h8; cases h9; cases h10
   have b8 := bounds_u64 w8
   have b9 := bounds_u64 w9
   exact ⟨⟨a0, a1, a2, a3, a4, a5, a6, a7, a8, a9, s⟩, rfl, ⟨b8.1, by show a8 < _; omega, b9.1, by show a9 < _; omega, w10⟩, w64_of w0, w64_of w1, w64_of w2, w64_of w3, w64_of w4, w64_of w5, w64_of w6, w64_of w7⟩
set_option maxRecDepth 20000 in
theorem slice_read {fuel : Nat} {s0 : Option Addr} {len cap : Nat} {x : DataW H × List MemPlace} (h : DataW.trod enc Tryz.prog w base (fun _ => true) held fuel 22 [.slice s0 len cap] = some x) :
  ∃ l : List Nd, l.length = len ∧ La w s0 l ∧ (∀ n ∈ l, Ok n) ∧ len ≤ maxLen := by
 have e36 : Tryz.prog.cellsOf 53 = 11 := by kernel_rfl
 rcases open_slice Tryz.underlying22 h with ⟨h0, -⟩ | ⟨a, len', cap', m, nn, D, Pl, hcs, hb, hl, hm, hmm, -, hx⟩
 ·simp at h0
  obtain ⟨rfl, rfl, rfl⟩ := h0
  exact ⟨[], rfl, Or.inl rfl, (fun n hn => nomatch hn), by decide⟩
 ·simp at hcs
  obtain ⟨rfl, rfl, rfl⟩ := hcs
  simp only [if_true] at hmm
  subst hmm
  have each : ∀ i, i < len → ∃ n : Nd, (∀ t u, n.cs[t]? = some u → w.cell? (a.add (i * 11 + t)) = some u) ∧ Ok n := by
   intro i hi
   obtain ⟨cs', h1, h2⟩ := hx i (by omega)
   obtain ⟨n, rfl, hn⟩ := node_read h2
   rw [e36] at h1
   obtain ⟨_, hlen, hcell⟩ := World.cells?_some h1
   refine ⟨n, fun t u hu => ?_, hn⟩
   have ht : t < 11 := (List.getElem?_eq_some_iff.1 hu).1
   have := hcell t ht
   rw [add_add] at this
   rw [this]; exact hu
  obtain ⟨N, hN⟩ := choose_lt each
  refine ⟨(List.range len).map N, by simp, ?_, ?_, by omega⟩
  ·by_cases h0 : len = 0
   ·left; rw [h0]; rfl
   ·right
    obtain ⟨g, o, sp⟩ := a
    have hsp : sp = none := by
     have := (hN 0 (by omega)).1 0 _ rfl
     cases sp with
     | none => rfl
     | some x => simp [World.cell?, Addr.add] at this; split at this <;> simp at this
    subst hsp
    have ead : ∀ j, (⟨g, o, none⟩ : Addr).add j = ⟨g, o + j, none⟩ := fun j => by by_cases hj0 : j = 0 <;> simp [Addr.add, hj0]
    have hc : Ln w g o ((List.range len).map N) := by
     intro j n hj t u hu
     have hjl : j < len := by have := (List.getElem?_eq_some_iff.1 hj).1; simpa using this
     simp [hjl] at hj
     subst hj
     have := (hN j hjl).1 t u hu
     rw [ead] at this
     rw [Nat.add_assoc]; exact this
    refine ⟨g, o, rfl, ?_, hc⟩
    have := hc 0 (N 0) (by rw [List.getElem?_map, List.getElem?_range (by omega)]; rfl) 0 _ rfl
    exact World.block_lt_of_cell? _ _ this
  ·intro n hn
   obtain ⟨i, hi, rfl⟩ := List.mem_map.1 hn
   exact (hN i (List.mem_range.1 hi)).2
end
open Go.RowKit
theorem Is'.row {w : World} {base : Nat} {v : Value} {l : List Int} (h : Is' w base v l) (hl : l ≠ []) :
  ∃ r cap C f, v = .slice (some ⟨r, 0, none⟩) l.length cap ∧ base ≤ r ∧ l.length ≤ cap ∧ w.rowIs r 3 C f ∧ l.length ≤ C ∧ ∀ x, x < l.length → f x = .int .i64 (l.getD x 0) := by
 rcases h.2 with ⟨rfl, hn⟩ | ⟨r, cap, cur, rfl, hb, hg, hc, _, hs, ht⟩
 ·exact absurd (List.eq_nil_of_length_eq_zero hn) hl
 ·have hcs : l.length ≤ cur.size := by
   have := congrArg List.length ht
   simp at this
   omega
  refine ⟨r, cap, cur.size, fun x => cur[x]?.getD (.bool false), rfl, hb, hc, ⟨cur, hg, rfl, fun i hi => by simp [hi]⟩, hcs, fun x hx => ?_⟩
  have e : (l.map (Value.int .i64))[x]? = some (.int .i64 (l.getD x 0)) := by
   rw [List.getElem?_map, List.getElem?_eq_getElem hx, List.getD_eq_getElem?_getD, List.getElem?_eq_getElem hx]; rfl
  rw [← ht, List.getElem?_take_of_lt (by omega)] at e
  have e' : cur[x]? = some (.int .i64 (l.getD x 0)) := by simpa using e
  show cur[x]?.getD _ = _
  rw [e']; rfl
def rvF (L : List Int) (n k x : Nat) : Int := if x < k ∨ n ≤ x + k then L.getD (n - 1 - x) 0 else L.getD x 0
def rvV (L : List Int) (f : Nat → Value) (n k x : Nat) : Value := if x < n then .int .i64 (rvF L n k x) else f x
theorem rvV_in {L : List Int} {f : Nat → Value} {n k x : Nat} (hx : x < n) (h : ¬ (x < k ∨ n ≤ x + k)) : rvV L f n k x = .int .i64 (L.getD x 0) := by
 unfold rvV rvF; rw [if_pos hx, if_neg h]
theorem rvV_step {L : List Int} {f : Nat → Value} {n k J : Nat} (h : k + J + 1 = n) (hk : k < J) (x : Nat) : rvV L f n (k + 1) x = if x = J then .int .i64 (L.getD k 0) else if x = k then .int .i64 (L.getD J 0) else rvV L f n k x := by
 by_cases h1 : x = J
 ·rw [if_pos h1, h1]
  unfold rvV rvF
  rw [if_pos (by omega), if_pos (by omega), show n - 1 - J = k by omega]
 ·rw [if_neg h1]
  by_cases h2 : x = k
  ·rw [if_pos h2, h2]
   unfold rvV rvF
   rw [if_pos (by omega), if_pos (by omega), show n - 1 - k = J by omega]
  ·rw [if_neg h2]
   unfold rvV rvF
   by_cases h3 : x < n
   ·rw [if_pos h3, if_pos h3]
    by_cases h4 : x < k ∨ n ≤ x + k
    ·rw [if_pos h4, if_pos (by omega)]
    ·rw [if_neg h4, if_neg (by omega)]
   ·rw [if_neg h3, if_neg h3]
theorem rev_any {w : World} {r cap C n : Nat} {f : Nat → Value} {L : List Int} (hL : L.length = n) (h : w.rowIs r 3 C f) (hf : ∀ x, x < n → f x = .int .i64 (L.getD x 0)) (hC : n ≤ C) (hn : n ≤ 5000) (hn0 : 0 < n) :
  Calls Tryz.prog 42 #[.slice (some ⟨r, 0, none⟩) n cap] w fun e w' => e = .returned (.tuple #[]) ∧ Li w' r 0 L.reverse ∧ Below r w w' := by
 have HL : Hid _ := hL
 have HR : Hid (w.rowIs r 3 C (rvV L f n 0)) := h.congr fun x hx => by
  unfold rvV rvF
  by_cases h1 : x < n
  ·rw [if_pos h1, if_neg (by omega)]; exact hf x h1
  ·rw [if_neg h1]
 clear h hf hL
 have e0 : wrap64 ((n : Int) - 1) = (n : Int) - 1 := by unfold wrap64; omega
 go_enter Tryz.func42, Tryz.ntmps42
 go_wp2_with fail
 go_loopw [2, 3] (fun i j wr => ∃ k J : Nat, k + J + 1 = n ∧ i = .int .i64 (k : Int) ∧ j = .int .i64 (J : Int) ∧ k ≤ J + 1 ∧ wr.rowIs r 3 C (rvV L f n k) ∧ Below r w wr) (fun i j wr => n - (intOf i).toNat)
 case atStart => exact ⟨0, n - 1, by omega, rfl, by simp; omega, by omega, HR.out, Below.refl _ _⟩
 case round =>
  clear HR
  obtain ⟨k, J, hs, rfl, rfl, hkJ, hr, hbl⟩ := hrel
  by_cases hlt : k < J
  ·have c1 : wr.cell? ⟨r, k, none⟩ = some (.int .i64 (L.getD k 0)) := by rw [hr.cell (by omega), rvV_in (by omega) (by omega)]
   have c2 : wr.cell? ⟨r, J, none⟩ = some (.int .i64 (L.getD J 0)) := by rw [hr.cell (by omega), rvV_in (by omega) (by omega)]
   have f1 := hr.frozen k
   have f2 := hr.frozen J
   obtain ⟨x, hx⟩ : ∃ x, x = L.getD k 0 := ⟨_, rfl⟩
   obtain ⟨y, hy⟩ : ∃ y, y = L.getD J 0 := ⟨_, rfl⟩
   rw [← hx] at c1
   rw [← hy] at c2
   have HQ : Hid (∀ wz : World, wz.heap[r]? = ((wr.setCell ⟨r, k, none⟩ (.int .i64 y)).setCell ⟨r, J, none⟩ (.int .i64 x)).heap[r]? → wz.rowIs r 3 C (rvV L f n (k + 1))) := fun wz hz => ((hr.set k (.int .i64 y)).set J (.int .i64 x)).congr (fun j _ => by rw [rvV_step hs hlt, hx, hy]) |>.of_block hz
   clear hr hx hy
   have l1 : (k : Int) < (J : Int) := by omega
   have l2 : (k : Int) < (n : Int) := by omega
   have l3 : (J : Int) < (n : Int) := by omega
   have e1 : wrap64 ((k : Int) + 1) = (k : Int) + 1 := by unfold wrap64; omega
   have e2 : wrap64 ((J : Int) - 1) = (J : Int) - 1 := by unfold wrap64; omega
   have nkJ : k ≠ J := by omega
   go_wp2_with fail
   go_region
   all_goals
    go_wp2_with fail
    refine ⟨⟨k + 1, J - 1, by omega, by go_num, by simp; omega, by omega, HQ.out _ ?_, ?_⟩, by simp [intOf]; omega⟩
    ·first | rfl | (trace_state; done)
    ·go_grown
  ·have l1 : ¬ (k : Int) < (J : Int) := by omega
   have HF : Hid (Li wr r 0 L.reverse) := by
    intro j hj
    rw [List.length_reverse, HL.out] at hj
    rw [Nat.zero_add, hr.cell (by omega)]
    unfold rvV rvF
    have e : (L.reverse).getD j 0 = L.getD (n - 1 - j) 0 := by
     rw [List.getD_eq_getElem?_getD, List.getElem?_reverse (by rw [HL.out]; exact hj), HL.out, ← List.getD_eq_getElem?_getD]
    rw [if_pos hj, e]
    by_cases h1 : j < k ∨ n ≤ j + k
    ·rw [if_pos h1]
    ·rw [if_neg h1, show n - 1 - j = j by omega]
   clear hr
   go_wp2_with fail
   go_end0
   exact ⟨rfl, HF.out, hbl⟩
end Go.Proofs.YtejljdbkocnhlaaGreat
