import Derived.Test.YtedldoobmmhloaaY10
namespace Go.Proofs.Ytedldoobmmhloaa
set_option maxHeartbeats 12800000
set_option maxRecDepth 100000
open Go.RowKit
set_option linter.unusedSimpArgs false
set_option linter.unusedVariables false
theorem ans_nn {op p q : Int} {l : List Int} (hall : l.all srt = true) (hn : nft op p q (l.getD 0 0) = true) : 0 ≤ ans op p q l := by
 have hg : ∀ j, 0 ≤ l.getD j 0 := fun j => by
  by_cases hj : j < l.length
  ·exact (srt_at hall hj).1
  ·rw [List.getD_eq_getElem?_getD, List.getElem?_eq_none (by omega)]; simp
 unfold ans
 split
 ·omega
 ·split
  ·exact hg 1
  ·split
   ·omega
   ·split
    ·have := hg 0; have := hg 1; omega
    ·split
     ·rename_i h; subst h
      have hn' : (p < l.getD 0 0 ∧ q ≤ p) ∧ 0 ≤ q := by simpa [nft] using hn
      omega
     ·split
      ·rename_i h
       have hn' : 0 ≤ p := by
        rcases h with rfl | rfl <;> (have := hn; simp [nft] at this; omega)
       have := hg 0; omega
      ·split
       ·rename_i h; subst h
        have hn' : 1 ≤ p ∧ q = 0 := by simpa [nft] using hn
        exact Int.mul_nonneg (hg 0) (by omega)
       ·exact hg 0
theorem srtF_ok {op p q s : Int} {l : List Int} (h : srtF op p q l = (s, 0)) : 0 ≤ s ∧ s ≤ 128 := by
 unfold srtF at h
 split at h
 ·cases h
 ·split at h
  ·rename_i hq
   split at h
   ·rename_i hle
    cases h
    have hf := hq.2
    unfold fitB at hf
    simp only [Bool.and_eq_true] at hf
    exact ⟨ans_nn hf.1.1 hf.2, hle⟩
   ·cases h
  ·cases h
theorem opB_kid {N : Nat} {k j x : Int} (h : opB N k j x = true) : 0 ≤ x ∧ x ≤ (N : Int) := by
 unfold opB at h
 split at h
 ·have : 1 ≤ x ∧ x ≤ (N : Int) := by simpa [hasB] using h
  omega
 ·have : x = 0 := by simpa using h
  omega
theorem inv_snoc {ns : List Nd} {n : Nd} {s : Int} (hv : Inv ns) (hs : srtOf ns n = (s, 0)) (hno : n.wi s ∉ ns) : Inv (ns ++ [n.wi s]) := by
 have hp : prt ns.length n = true := by
  cases e : prt ns.length n
  ·unfold srtOf at hs; rw [if_pos e] at hs; cases hs
  ·rfl
 have hp' := hp
 rw [prt_eq rfl] at hp'
 simp only [Bool.and_eq_true] at hp'
 obtain ⟨⟨⟨⟨⟨-, ha⟩, hb⟩, hc⟩, hval⟩, -⟩ := hp'
 have hss : 0 ≤ s ∧ s ≤ 128 := by
  unfold srtOf at hs
  rw [if_neg (by simp [hp])] at hs
  split at hs
  ·split at hs
   ·rename_i hq
    cases hs
    simp only [Bool.and_eq_true, decide_eq_true_eq] at hq
    have hr := hq.1.1.1
    unfold rgt at hr
    simp only [Bool.and_eq_true, decide_eq_true_eq] at hr
    have := hq.1.1.2
    omega
   ·cases hs
  ·split at hs
   ·split at hs
    ·rename_i hq
     simp only [Bool.and_eq_true, decide_eq_true_eq] at hq
     have hr := hq.1.1
     unfold srt at hr
     simp only [Bool.and_eq_true, decide_eq_true_eq] at hr
     split at hs
     ·cases hs
     ·cases hs; exact hr
    ·cases hs
   ·exact srtF_ok hs
 have hvar : n.op = 2 → (n.p = 0 ∧ n.q = 0 ∧ s = n.s ∧ clash ns n = false) := by
  intro h2
  unfold srtOf at hs
  rw [if_neg (by simp [hp]), if_neg (by omega), if_pos h2] at hs
  split at hs
  ·rename_i hq
   simp only [Bool.and_eq_true, decide_eq_true_eq] at hq
   split at hs
   ·cases hs
   ·rename_i hc
    simp only [Bool.or_eq_true, not_or, Bool.not_eq_true] at hc
    cases hs
    exact ⟨hq.1.2, hq.2, rfl, hc.2⟩
  ·cases hs
 have hcan : n.op = 2 → n.a = 0 ∧ n.b = 0 ∧ n.c = 0 ∧ n.w = 0 ∧ n.lo = 0 ∧ n.hi = 0 := by
  intro h2
  have h0 : ari n.op = 0 := by rw [h2]; decide
  rw [h0] at ha hb hc
  have z : zB n.w n.lo n.hi = true := by
   rw [h2] at hval; simpa using hval
  unfold zB at z
  simp only [Bool.and_eq_true, decide_eq_true_eq] at z
  have a0 : n.a = 0 := by simpa [opB] using ha
  have b0 : n.b = 0 := by simpa [opB] using hb
  have c0 : n.c = 0 := by simpa [opB] using hc
  exact ⟨a0, b0, c0, z.1.1, z.1.2, z.2⟩
 have key : ∀ m ∈ ns, m.op = 2 → n.op = 2 → m.nm = n.nm → False := by
  intro m hm hm2 h2 hnm
  obtain ⟨p0, q0, es, hcl⟩ := hvar h2
  obtain ⟨a0, b0, c0, w0, l0, h0⟩ := hcan h2
  obtain ⟨a1, b1, c1, p1, q1, w1, l1, h1⟩ := hv.canon m hm hm2
  have hms : m.s = n.s := by
   have := clash_some hv hm hm2 hnm
   rw [hcl] at this
   simpa using this.symm
  apply hno
  have : m = n.wi s := by
   cases m; cases n
   simp only [Nd.wi, Nd.mk.injEq] at *
   simp [*]
  rw [← this]; exact hm
 refine ⟨?_, ?_, ?_, ?_, ?_⟩
 ·intro m hm
  rcases List.mem_append.1 hm with hm | hm
  ·exact hv.sorts m hm
  ·obtain rfl := List.mem_singleton.1 hm; exact hss
 ·rw [List.nodup_append]
  refine ⟨hv.once, by simp, ?_⟩
  intro a ha b hb e
  obtain rfl := List.mem_singleton.1 hb
  exact hno (e ▸ ha)
 ·intro a ha b hb ha2 hb2 hnm
  rcases List.mem_append.1 ha with ha | ha
  ·rcases List.mem_append.1 hb with hb | hb
   ·exact hv.names a ha b hb ha2 hb2 hnm
   ·obtain rfl := List.mem_singleton.1 hb
    exact (key a ha ha2 hb2 hnm).elim
  ·obtain rfl := List.mem_singleton.1 ha
   rcases List.mem_append.1 hb with hb | hb
   ·exact (key b hb hb2 ha2 hnm.symm).elim
   ·obtain rfl := List.mem_singleton.1 hb; rfl
 ·intro m hm hm2
  rcases List.mem_append.1 hm with hm | hm
  ·exact hv.canon m hm hm2
  ·obtain rfl := List.mem_singleton.1 hm
   obtain ⟨p0, q0, es, hcl⟩ := hvar hm2
   obtain ⟨a0, b0, c0, w0, l0, h0⟩ := hcan hm2
   exact ⟨a0, b0, c0, p0, q0, w0, l0, h0⟩
 ·intro i m hi
  by_cases hlt : i < ns.length
  ·rw [List.getElem?_append_left hlt] at hi
   exact hv.kids i m hi
  ·rw [List.getElem?_append_right (by omega)] at hi
   have hi' : i - ns.length = 0 := by
    have := (List.getElem?_eq_some_iff.1 hi).1
    simp at this; omega
   rw [hi'] at hi
   obtain rfl : n.wi s = m := by simpa using hi
   have e : i = ns.length := by omega
   rw [e]
   have k1 := opB_kid ha
   have k2 := opB_kid hb
   have k3 := opB_kid hc
   exact ⟨k1.1, k1.2, k2.1, k2.2, k3.1, k3.2⟩
theorem mk_err {w : World} {B g mi mv mo : Nat} {v : Value} {ns : List Nd} (h : Gr w B g mi mv v mo ns) {n : Nd} {s : Int} (hf : Fi n) {er : Int} (hs : srtOf ns n = (s, er)) (he : ¬ er = 0) :
  Calls Try.prog 14 #[.pointer (some ⟨g, 0, none⟩), .agg #[.int .i64 n.op, .int .i64 n.s, .int .i64 n.a, .int .i64 n.b, .int .i64 n.c, .int .i64 n.p, .int .i64 n.q, .int .i64 n.w, .int .u64 n.lo, .int .u64 n.hi, .string n.nm]] w fun E' w' => E' = .returned (.tuple #[.int .i64 0, .int .i64 er]) ∧ Below w.heap.size w w' := by
 have HSO : Hid (∀ wx, Below w.heap.size w wx → Calls Try.prog 24 #[.pointer (some ⟨g, 0, none⟩), .agg #[.int .i64 n.op, .int .i64 n.s, .int .i64 n.a, .int .i64 n.b, .int .i64 n.c, .int .i64 n.p, .int .i64 n.q, .int .i64 n.w, .int .u64 n.lo, .int .u64 n.hi, .string n.nm]] wx fun e w' => e = .returned (.tuple #[.int .i64 s, .int .i64 er]) ∧ Below wx.heap.size wx w') := fun wx hb => by have := sortOf_any (h.below hb) hf; rw [hs] at this; exact this
 have z1 : (er == 0) = false := by simp [he]
 have z2 : (er != 0) = true := by simp [he]
 clear h hs hf he
 go_enter Try.func14, Try.ntmps14
 go_wp2_with fail
 refine (HSO.out _ (by go_grown)).mono ?_
 rintro e0 wz ⟨rfl, hb⟩
 have hB : Below w.heap.size w wz := Below.trans (by go_grown) (hb.mono (by simp))
 have hc := box_cells hb
 have k0 : wz.cell? ⟨w.heap.size, 0, none⟩ = some (.int .i64 n.op) := hc 0 _ rfl
 have k1 : wz.cell? ⟨w.heap.size, 1, none⟩ = some (.int .i64 n.s) := hc 1 _ rfl
 have k2 : wz.cell? ⟨w.heap.size, 2, none⟩ = some (.int .i64 n.a) := hc 2 _ rfl
 have k3 : wz.cell? ⟨w.heap.size, 3, none⟩ = some (.int .i64 n.b) := hc 3 _ rfl
 have k4 : wz.cell? ⟨w.heap.size, 4, none⟩ = some (.int .i64 n.c) := hc 4 _ rfl
 have k5 : wz.cell? ⟨w.heap.size, 5, none⟩ = some (.int .i64 n.p) := hc 5 _ rfl
 have k6 : wz.cell? ⟨w.heap.size, 6, none⟩ = some (.int .i64 n.q) := hc 6 _ rfl
 have k7 : wz.cell? ⟨w.heap.size, 7, none⟩ = some (.int .i64 n.w) := hc 7 _ rfl
 have k8 : wz.cell? ⟨w.heap.size, 8, none⟩ = some (.int .u64 n.lo) := hc 8 _ rfl
 have k9 : wz.cell? ⟨w.heap.size, 9, none⟩ = some (.int .u64 n.hi) := hc 9 _ rfl
 have k10 : wz.cell? ⟨w.heap.size, 10, none⟩ = some (.string n.nm) := hc 10 _ rfl
 have kf : wz.frozen? ⟨w.heap.size, 1, none⟩ = false := by rw [hb.frozen (p := ⟨w.heap.size, 1, none⟩) (by simp)]; simp
 have hsz : w.heap.size < wz.heap.size := by have := hb.size; simp at this; omega
 clear hb hc
 go_wp2_with fail
 refine bodyPost_ret (v := .tuple #[.int .i64 0, .int .i64 er]) (by simp [results, Try.results14, go_sem]) rfl ?_
 exact ⟨rfl, hB⟩
theorem mk_old {w : World} {B g mi mv mo : Nat} {v : Value} {ns : List Nd} (h : Gr w B g mi mv v mo ns) {n : Nd} {s : Int} (hf : Fi n) (hs : srtOf ns n = (s, 0)) {i : Nat} (hi : ns[i]? = some (n.wi s)) :
  Calls Try.prog 14 #[.pointer (some ⟨g, 0, none⟩), .agg #[.int .i64 n.op, .int .i64 n.s, .int .i64 n.a, .int .i64 n.b, .int .i64 n.c, .int .i64 n.p, .int .i64 n.q, .int .i64 n.w, .int .u64 n.lo, .int .u64 n.hi, .string n.nm]] w fun e w' => e = .returned (.tuple #[.int .i64 ((i : Int) + 1), .int .i64 0]) ∧ Below w.heap.size w w' := by
 have HSO : Hid (∀ wx, Below w.heap.size w wx → Calls Try.prog 24 #[.pointer (some ⟨g, 0, none⟩), .agg #[.int .i64 n.op, .int .i64 n.s, .int .i64 n.a, .int .i64 n.b, .int .i64 n.c, .int .i64 n.p, .int .i64 n.q, .int .i64 n.w, .int .u64 n.lo, .int .u64 n.hi, .string n.nm]] wx fun e w' => e = .returned (.tuple #[.int .i64 s, .int .i64 0]) ∧ Below wx.heap.size wx w') := fun wx hb => by have := sortOf_any (h.below hb) hf; rw [hs] at this; exact this
 have c0 := h.c0
 have c1 := h.c1
 have c2 := h.c2
 have hg := h.lt
 have HL : Hid (∀ x, Below w.heap.size w x → (Instr.lookup 55 (.map (some mi)) (.agg #[.int .i64 n.op, .int .i64 s, .int .i64 n.a, .int .i64 n.b, .int .i64 n.c, .int .i64 n.p, .int .i64 n.q, .int .i64 n.w, .int .u64 n.lo, .int .u64 n.hi, .string n.nm]) true).run Try.prog x = .ok (.tuple #[.int .i64 ((i : Int) + 1), .bool true]) x) := fun x hb => by
  obtain ⟨kl, hk⟩ := h.ids.keys _ (in_idL hi)
  exact (h.below hb).ids.yes nodeLaw idsUnder (zeroInt x) hk (in_idL hi) (idL_uniq h.inv hi)
 clear h hs hf hi c0 c1
 go_enter Try.func14, Try.ntmps14
 go_wp2_with fail
 refine (HSO.out _ (by go_grown)).mono ?_
 rintro e wz ⟨rfl, hb⟩
 have hB : Below w.heap.size w wz := Below.trans (by go_grown) (hb.mono (by simp))
 have hc := box_cells hb
 have k0 : wz.cell? ⟨w.heap.size, 0, none⟩ = some (.int .i64 n.op) := hc 0 _ rfl
 have k1 : wz.cell? ⟨w.heap.size, 1, none⟩ = some (.int .i64 n.s) := hc 1 _ rfl
 have k2 : wz.cell? ⟨w.heap.size, 2, none⟩ = some (.int .i64 n.a) := hc 2 _ rfl
 have k3 : wz.cell? ⟨w.heap.size, 3, none⟩ = some (.int .i64 n.b) := hc 3 _ rfl
 have k4 : wz.cell? ⟨w.heap.size, 4, none⟩ = some (.int .i64 n.c) := hc 4 _ rfl
 have k5 : wz.cell? ⟨w.heap.size, 5, none⟩ = some (.int .i64 n.p) := hc 5 _ rfl
 have k6 : wz.cell? ⟨w.heap.size, 6, none⟩ = some (.int .i64 n.q) := hc 6 _ rfl
 have k7 : wz.cell? ⟨w.heap.size, 7, none⟩ = some (.int .i64 n.w) := hc 7 _ rfl
 have k8 : wz.cell? ⟨w.heap.size, 8, none⟩ = some (.int .u64 n.lo) := hc 8 _ rfl
 have k9 : wz.cell? ⟨w.heap.size, 9, none⟩ = some (.int .u64 n.hi) := hc 9 _ rfl
 have k10 : wz.cell? ⟨w.heap.size, 10, none⟩ = some (.string n.nm) := hc 10 _ rfl
 have kf : wz.frozen? ⟨w.heap.size, 1, none⟩ = false := by rw [hb.frozen (p := ⟨w.heap.size, 1, none⟩) (by simp)]; simp
 have hsz : w.heap.size < wz.heap.size := by have := hb.size; simp at this; omega
 clear hb hc
 go_wp2_with fail
 go_region_held3 (fun x => x.cell? ⟨g, 2, none⟩ = some (.map (some mi)) ∧ (Instr.lookup 55 (.map (some mi)) (.agg #[.int .i64 n.op, .int .i64 s, .int .i64 n.a, .int .i64 n.b, .int .i64 n.c, .int .i64 n.p, .int .i64 n.q, .int .i64 n.w, .int .u64 n.lo, .int .u64 n.hi, .string n.nm]) true).run Try.prog x = .ok (.tuple #[.int .i64 ((i : Int) + 1), .bool true]) x ∧ x.cell? ⟨w.heap.size, 0, none⟩ = some (.int .i64 n.op) ∧ x.cell? ⟨w.heap.size, 1, none⟩ = some (.int .i64 s) ∧ x.cell? ⟨w.heap.size, 2, none⟩ = some (.int .i64 n.a) ∧ x.cell? ⟨w.heap.size, 3, none⟩ = some (.int .i64 n.b) ∧ x.cell? ⟨w.heap.size, 4, none⟩ = some (.int .i64 n.c) ∧ x.cell? ⟨w.heap.size, 5, none⟩ = some (.int .i64 n.p) ∧ x.cell? ⟨w.heap.size, 6, none⟩ = some (.int .i64 n.q) ∧ x.cell? ⟨w.heap.size, 7, none⟩ = some (.int .i64 n.w) ∧ x.cell? ⟨w.heap.size, 8, none⟩ = some (.int .u64 n.lo) ∧ x.cell? ⟨w.heap.size, 9, none⟩ = some (.int .u64 n.hi) ∧ x.cell? ⟨w.heap.size, 10, none⟩ = some (.string n.nm))
  ((refine ⟨bel_cell (by go_grown) hg c2, HL.out _ (by go_grown), ?_, ?_, ?_, ?_, ?_, ?_, ?_, ?_, ?_, ?_, ?_⟩ <;> simp [go_sem, k0, k1, k2, k3, k4, k5, k6, k7, k8, k9, k10]))
  (fail)
 go_wp2_with fail
 refine bodyPost_ret (v := .tuple #[.int .i64 ((i : Int) + 1), .int .i64 0]) (by simp [results, Try.results14, go_sem]) rfl ?_
 exact ⟨rfl, by go_grown⟩
theorem mk_full {w : World} {B g mi mv mo : Nat} {v : Value} {ns : List Nd} (h : Gr w B g mi mv v mo ns) {n : Nd} {s : Int} (hf : Fi n) (hs : srtOf ns n = (s, 0)) (hno : n.wi s ∉ ns) {kl : Lit} (hkey : keyOf Try.prog 43 (n.wi s).val = some kl) (hfull : ns.length = mo) :
  Calls Try.prog 14 #[.pointer (some ⟨g, 0, none⟩), .agg #[.int .i64 n.op, .int .i64 n.s, .int .i64 n.a, .int .i64 n.b, .int .i64 n.c, .int .i64 n.p, .int .i64 n.q, .int .i64 n.w, .int .u64 n.lo, .int .u64 n.hi, .string n.nm]] w fun e w' => e = .returned (.tuple #[.int .i64 0, .int .i64 33]) ∧ Below w.heap.size w w' := by
 have HSO : Hid (∀ wx, Below w.heap.size w wx → Calls Try.prog 24 #[.pointer (some ⟨g, 0, none⟩), .agg #[.int .i64 n.op, .int .i64 n.s, .int .i64 n.a, .int .i64 n.b, .int .i64 n.c, .int .i64 n.p, .int .i64 n.q, .int .i64 n.w, .int .u64 n.lo, .int .u64 n.hi, .string n.nm]] wx fun e w' => e = .returned (.tuple #[.int .i64 s, .int .i64 0]) ∧ Below wx.heap.size wx w') := fun wx hb => by have := sortOf_any (h.below hb) hf; rw [hs] at this; exact this
 have c0 := h.c0
 have c1 := h.c1
 have c2 := h.c2
 have hg := h.lt
 have HL : Hid (∀ x, Below w.heap.size w x → (Instr.lookup 55 (.map (some mi)) (.agg #[.int .i64 n.op, .int .i64 s, .int .i64 n.a, .int .i64 n.b, .int .i64 n.c, .int .i64 n.p, .int .i64 n.q, .int .i64 n.w, .int .u64 n.lo, .int .u64 n.hi, .string n.nm]) true).run Try.prog x = .ok (.tuple #[.int .i64 0, .bool false]) x) := fun x hb =>
  (h.below hb).ids.no nodeLaw idsUnder (zeroInt x) hkey (fun p hp e => by
   obtain ⟨j, m, hj, rfl⟩ := mem_idL hp
   have : m = n.wi s := Nd.val_inj e
   exact hno (this ▸ List.mem_of_getElem? hj))
 obtain ⟨ad, cap, rfl⟩ := h.sl
 have hne : ((ns.length : Int) == (mo : Int)) = true := by simp [hfull]
 obtain ⟨N, hN⟩ : ∃ N, N = ns.length := ⟨_, rfl⟩
 rw [← hN] at c1 hne
 clear h hs hf hno hkey hfull hN
 go_enter Try.func14, Try.ntmps14
 go_wp2_with fail
 refine (HSO.out _ (by go_grown)).mono ?_
 rintro e wz ⟨rfl, hb⟩
 have hB : Below w.heap.size w wz := Below.trans (by go_grown) (hb.mono (by simp))
 have hc := box_cells hb
 have k0 : wz.cell? ⟨w.heap.size, 0, none⟩ = some (.int .i64 n.op) := hc 0 _ rfl
 have k1 : wz.cell? ⟨w.heap.size, 1, none⟩ = some (.int .i64 n.s) := hc 1 _ rfl
 have k2 : wz.cell? ⟨w.heap.size, 2, none⟩ = some (.int .i64 n.a) := hc 2 _ rfl
 have k3 : wz.cell? ⟨w.heap.size, 3, none⟩ = some (.int .i64 n.b) := hc 3 _ rfl
 have k4 : wz.cell? ⟨w.heap.size, 4, none⟩ = some (.int .i64 n.c) := hc 4 _ rfl
 have k5 : wz.cell? ⟨w.heap.size, 5, none⟩ = some (.int .i64 n.p) := hc 5 _ rfl
 have k6 : wz.cell? ⟨w.heap.size, 6, none⟩ = some (.int .i64 n.q) := hc 6 _ rfl
 have k7 : wz.cell? ⟨w.heap.size, 7, none⟩ = some (.int .i64 n.w) := hc 7 _ rfl
 have k8 : wz.cell? ⟨w.heap.size, 8, none⟩ = some (.int .u64 n.lo) := hc 8 _ rfl
 have k9 : wz.cell? ⟨w.heap.size, 9, none⟩ = some (.int .u64 n.hi) := hc 9 _ rfl
 have k10 : wz.cell? ⟨w.heap.size, 10, none⟩ = some (.string n.nm) := hc 10 _ rfl
 have kf : wz.frozen? ⟨w.heap.size, 1, none⟩ = false := by rw [hb.frozen (p := ⟨w.heap.size, 1, none⟩) (by simp)]; simp
 have hsz : w.heap.size < wz.heap.size := by have := hb.size; simp at this; omega
 clear hb hc
 go_wp2_with fail
 go_region_held3 (fun x => x.cell? ⟨g, 2, none⟩ = some (.map (some mi)) ∧ (Instr.lookup 55 (.map (some mi)) (.agg #[.int .i64 n.op, .int .i64 s, .int .i64 n.a, .int .i64 n.b, .int .i64 n.c, .int .i64 n.p, .int .i64 n.q, .int .i64 n.w, .int .u64 n.lo, .int .u64 n.hi, .string n.nm]) true).run Try.prog x = .ok (.tuple #[.int .i64 0, .bool false]) x ∧ x.cell? ⟨w.heap.size, 0, none⟩ = some (.int .i64 n.op) ∧ x.cell? ⟨w.heap.size, 1, none⟩ = some (.int .i64 s) ∧ x.cell? ⟨w.heap.size, 2, none⟩ = some (.int .i64 n.a) ∧ x.cell? ⟨w.heap.size, 3, none⟩ = some (.int .i64 n.b) ∧ x.cell? ⟨w.heap.size, 4, none⟩ = some (.int .i64 n.c) ∧ x.cell? ⟨w.heap.size, 5, none⟩ = some (.int .i64 n.p) ∧ x.cell? ⟨w.heap.size, 6, none⟩ = some (.int .i64 n.q) ∧ x.cell? ⟨w.heap.size, 7, none⟩ = some (.int .i64 n.w) ∧ x.cell? ⟨w.heap.size, 8, none⟩ = some (.int .u64 n.lo) ∧ x.cell? ⟨w.heap.size, 9, none⟩ = some (.int .u64 n.hi) ∧ x.cell? ⟨w.heap.size, 10, none⟩ = some (.string n.nm))
  ((refine ⟨bel_cell (by go_grown) hg c2, HL.out _ (by go_grown), ?_, ?_, ?_, ?_, ?_, ?_, ?_, ?_, ?_, ?_, ?_⟩ <;> simp [go_sem, k0, k1, k2, k3, k4, k5, k6, k7, k8, k9, k10]))
  (fail)
 go_wp2_with fail
 go_region_held3 (fun x => x.cell? ⟨g, 1, none⟩ = some (.slice ad N cap) ∧ x.cell? ⟨g, 0, none⟩ = some (.int .i64 (mo : Int)))
  (exact ⟨bel_cell (by go_grown) hg c1, bel_cell (by go_grown) hg c0⟩)
  (fail)
 go_wp2_with fail
 refine bodyPost_ret (v := .tuple #[.int .i64 0, .int .i64 33]) (by simp [results, Try.results14, go_sem]) rfl ?_
 exact ⟨rfl, by go_grown⟩
theorem mk_new {w : World} {B g mi mv mo : Nat} {v : Value} {ns : List Nd} (h : Gr w B g mi mv v mo ns) {n : Nd} {s : Int} (hf : Fi n) (hs : srtOf ns n = (s, 0)) (hno : n.wi s ∉ ns) {kl : Lit} (hkey : keyOf Try.prog 43 (n.wi s).val = some kl) (hlt : ns.length < mo) (hBw : B ≤ w.heap.size) :
  Calls Try.prog 14 #[.pointer (some ⟨g, 0, none⟩), .agg #[.int .i64 n.op, .int .i64 n.s, .int .i64 n.a, .int .i64 n.b, .int .i64 n.c, .int .i64 n.p, .int .i64 n.q, .int .i64 n.w, .int .u64 n.lo, .int .u64 n.hi, .string n.nm]] w fun e w' => e = .returned (.tuple #[.int .i64 ((ns.length : Int) + 1), .int .i64 0]) ∧ ∃ v', Gr w' B g mi mv v' mo (ns ++ [n.wi s]) ∧ Chg w w' g mi mv v ∧ (v'.ownBlock = v.ownBlock ∨ ∃ b, v'.ownBlock = some b ∧ w.heap.size ≤ b) := by
 have HSO : Hid (∀ wx, Below w.heap.size w wx → Calls Try.prog 24 #[.pointer (some ⟨g, 0, none⟩), .agg #[.int .i64 n.op, .int .i64 n.s, .int .i64 n.a, .int .i64 n.b, .int .i64 n.c, .int .i64 n.p, .int .i64 n.q, .int .i64 n.w, .int .u64 n.lo, .int .u64 n.hi, .string n.nm]] wx fun e w' => e = .returned (.tuple #[.int .i64 s, .int .i64 0]) ∧ Below wx.heap.size wx w') := fun wx hb => by have := sortOf_any (h.below hb) hf; rw [hs] at this; exact this
 have c0 := h.c0
 have c1 := h.c1
 have c2 := h.c2
 have hg := h.lt
 have HL : Hid (∀ x, Below w.heap.size w x → (Instr.lookup 55 (.map (some mi)) (.agg #[.int .i64 n.op, .int .i64 s, .int .i64 n.a, .int .i64 n.b, .int .i64 n.c, .int .i64 n.p, .int .i64 n.q, .int .i64 n.w, .int .u64 n.lo, .int .u64 n.hi, .string n.nm]) true).run Try.prog x = .ok (.tuple #[.int .i64 0, .bool false]) x) := fun x hb =>
  (h.below hb).ids.no nodeLaw idsUnder (zeroInt x) hkey (fun p hp e => by
   obtain ⟨j, m, hj, rfl⟩ := mem_idL hp
   have : m = n.wi s := Nd.val_inj e
   exact hno (this ▸ List.mem_of_getElem? hj))
 have HAD : Hid (∀ wx, Below w.heap.size w wx → Calls Try.prog 25 #[.pointer (some ⟨g, 0, none⟩), .agg #[.int .i64 n.op, .int .i64 s, .int .i64 n.a, .int .i64 n.b, .int .i64 n.c, .int .i64 n.p, .int .i64 n.q, .int .i64 n.w, .int .u64 n.lo, .int .u64 n.hi, .string n.nm]] wx fun e w' => e = .returned (.int .i64 ((ns.length : Int) + 1)) ∧ ∃ v', Gr w' B g mi mv v' mo (ns ++ [n.wi s]) ∧ Chg w w' g mi mv v ∧ (v'.ownBlock = v.ownBlock ∨ ∃ b, v'.ownBlock = some b ∧ w.heap.size ≤ b)) := fun wx hb => by
  refine (gadd_any (n := n.wi s) (h.below hb) hlt (inv_snoc h.inv hs hno) hkey hf.nm (Nat.le_trans hBw hb.size)).mono ?_
  rintro e w' ⟨he, v', hG, hC, hv⟩
  refine ⟨he, v', hG, ⟨hC.os.trans hb.os, hC.tape.trans hb.tape, hC.output.trans hb.output, Nat.le_trans hb.size hC.size, fun k k1 k2 k3 k4 k5 => (hC.block k (Nat.lt_of_lt_of_le k1 hb.size) k2 k3 k4 k5).trans (hb.block k k1)⟩, ?_⟩
  rcases hv with e | ⟨b, e, hb'⟩
  ·exact Or.inl e
  ·exact Or.inr ⟨b, e, Nat.le_trans hb.size hb'⟩
 obtain ⟨ad, cap, rfl⟩ := h.sl
 have hne : ((ns.length : Int) == (mo : Int)) = false := by simp; omega
 obtain ⟨N, hN⟩ : ∃ N, N = ns.length := ⟨_, rfl⟩
 rw [← hN] at c1 hne
 clear h hs hf hno hkey hlt hN
 go_enter Try.func14, Try.ntmps14
 go_wp2_with fail
 refine (HSO.out _ (by go_grown)).mono ?_
 rintro e wz ⟨rfl, hb⟩
 have hB : Below w.heap.size w wz := Below.trans (by go_grown) (hb.mono (by simp))
 have hc := box_cells hb
 have k0 : wz.cell? ⟨w.heap.size, 0, none⟩ = some (.int .i64 n.op) := hc 0 _ rfl
 have k1 : wz.cell? ⟨w.heap.size, 1, none⟩ = some (.int .i64 n.s) := hc 1 _ rfl
 have k2 : wz.cell? ⟨w.heap.size, 2, none⟩ = some (.int .i64 n.a) := hc 2 _ rfl
 have k3 : wz.cell? ⟨w.heap.size, 3, none⟩ = some (.int .i64 n.b) := hc 3 _ rfl
 have k4 : wz.cell? ⟨w.heap.size, 4, none⟩ = some (.int .i64 n.c) := hc 4 _ rfl
 have k5 : wz.cell? ⟨w.heap.size, 5, none⟩ = some (.int .i64 n.p) := hc 5 _ rfl
 have k6 : wz.cell? ⟨w.heap.size, 6, none⟩ = some (.int .i64 n.q) := hc 6 _ rfl
 have k7 : wz.cell? ⟨w.heap.size, 7, none⟩ = some (.int .i64 n.w) := hc 7 _ rfl
 have k8 : wz.cell? ⟨w.heap.size, 8, none⟩ = some (.int .u64 n.lo) := hc 8 _ rfl
 have k9 : wz.cell? ⟨w.heap.size, 9, none⟩ = some (.int .u64 n.hi) := hc 9 _ rfl
 have k10 : wz.cell? ⟨w.heap.size, 10, none⟩ = some (.string n.nm) := hc 10 _ rfl
 have kf : wz.frozen? ⟨w.heap.size, 1, none⟩ = false := by rw [hb.frozen (p := ⟨w.heap.size, 1, none⟩) (by simp)]; simp
 have hsz : w.heap.size < wz.heap.size := by have := hb.size; simp at this; omega
 clear hb hc
 go_wp2_with fail
 go_region_held3 (fun x => x.cell? ⟨g, 2, none⟩ = some (.map (some mi)) ∧ (Instr.lookup 55 (.map (some mi)) (.agg #[.int .i64 n.op, .int .i64 s, .int .i64 n.a, .int .i64 n.b, .int .i64 n.c, .int .i64 n.p, .int .i64 n.q, .int .i64 n.w, .int .u64 n.lo, .int .u64 n.hi, .string n.nm]) true).run Try.prog x = .ok (.tuple #[.int .i64 0, .bool false]) x ∧ x.cell? ⟨w.heap.size, 0, none⟩ = some (.int .i64 n.op) ∧ x.cell? ⟨w.heap.size, 1, none⟩ = some (.int .i64 s) ∧ x.cell? ⟨w.heap.size, 2, none⟩ = some (.int .i64 n.a) ∧ x.cell? ⟨w.heap.size, 3, none⟩ = some (.int .i64 n.b) ∧ x.cell? ⟨w.heap.size, 4, none⟩ = some (.int .i64 n.c) ∧ x.cell? ⟨w.heap.size, 5, none⟩ = some (.int .i64 n.p) ∧ x.cell? ⟨w.heap.size, 6, none⟩ = some (.int .i64 n.q) ∧ x.cell? ⟨w.heap.size, 7, none⟩ = some (.int .i64 n.w) ∧ x.cell? ⟨w.heap.size, 8, none⟩ = some (.int .u64 n.lo) ∧ x.cell? ⟨w.heap.size, 9, none⟩ = some (.int .u64 n.hi) ∧ x.cell? ⟨w.heap.size, 10, none⟩ = some (.string n.nm))
  ((refine ⟨bel_cell (by go_grown) hg c2, HL.out _ (by go_grown), ?_, ?_, ?_, ?_, ?_, ?_, ?_, ?_, ?_, ?_, ?_⟩ <;> simp [go_sem, k0, k1, k2, k3, k4, k5, k6, k7, k8, k9, k10]))
  (fail)
 go_wp2_with fail
 go_region_held3 (fun x => x.cell? ⟨g, 1, none⟩ = some (.slice ad N cap) ∧ x.cell? ⟨g, 0, none⟩ = some (.int .i64 (mo : Int)))
  (exact ⟨bel_cell (by go_grown) hg c1, bel_cell (by go_grown) hg c0⟩)
  (fail)
 go_wp2_with fail
 refine (HAD.out _ (by go_grown)).mono ?_
 rintro e w2 ⟨rfl, hR⟩
 have HR : Hid _ := hR
 clear hR
 go_wp2_with fail
 refine bodyPost_ret (v := .tuple #[.int .i64 ((ns.length : Int) + 1), .int .i64 0]) (by simp [results, Try.results14, go_sem]) rfl ?_
 exact ⟨rfl, HR.out⟩
end Go.Proofs.Ytedldoobmmhloaa
