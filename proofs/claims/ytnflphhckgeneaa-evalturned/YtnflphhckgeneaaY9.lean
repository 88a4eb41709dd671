/- Contracts (terms): the sort that a node would have. -/
import Derived.Test.YtnflphhckgeneaaY7
import Derived.Test.YtnflphhckgeneaaY0
namespace Go.Proofs.Ytnflphhckgeneaa
open Go.RowKit
set_option linter.unusedSimpArgs false
set_option linter.unusedVariables false

theorem box_cells {w x : World} {n : Nd} {T : TypeId} (hb : Below (w.alloc (.cells #[.int .i64 n.op, .int .i64 n.s, .int .i64 n.a, .int .i64 n.b, .int .i64 n.c, .int .i64 n.p, .int .i64 n.q, .int .i64 n.w, .int .u64 n.lo, .int .u64 n.hi, .string n.nm] T)).heap.size (w.alloc (.cells #[.int .i64 n.op, .int .i64 n.s, .int .i64 n.a, .int .i64 n.b, .int .i64 n.c, .int .i64 n.p, .int .i64 n.q, .int .i64 n.w, .int .u64 n.lo, .int .u64 n.hi, .string n.nm] T)) x) :
    ∀ j u, n.cs[j]? = some u → x.cell? ⟨w.heap.size, j, none⟩ = some u := by
  intro j u hj
  have h := (hb.block w.heap.size (by simp)).trans (heap_alloc_new w _)
  exact cell_of h j (by simpa [Nd.cs] using hj)

set_option maxHeartbeats 1600000 in
theorem srt_no {w : World} {B g mi mv mo : Nat} {v : Value} {ns : List Nd} (h : Gr w B g mi mv v mo ns) {n : Nd} (hp : prt ns.length n = false) :
    Calls Try.prog 15 #[.pointer (some ⟨g, 0, none⟩), .agg #[.int .i64 n.op, .int .i64 n.s, .int .i64 n.a, .int .i64 n.b, .int .i64 n.c, .int .i64 n.p, .int .i64 n.q, .int .i64 n.w, .int .u64 n.lo, .int .u64 n.hi, .string n.nm]] w fun e w' => e = .returned (.tuple #[.int .i64 0, .int .i64 32]) ∧ Below w.heap.size w w' := by
  have HP : Hid (∀ wx, Below w.heap.size w wx → Calls Try.prog 51 #[.pointer (some ⟨g, 0, none⟩), .agg #[.int .i64 n.op, .int .i64 n.s, .int .i64 n.a, .int .i64 n.b, .int .i64 n.c, .int .i64 n.p, .int .i64 n.q, .int .i64 n.w, .int .u64 n.lo, .int .u64 n.hi, .string n.nm]] wx fun e w' => e = .returned (.bool false) ∧ Below wx.heap.size wx w') := fun wx hb => by rw [← hp]; exact parts_any (h.below hb) n
  clear h hp
  go_enter Try.func15, Try.ntmps15
  go_wp2_with fail
  refine (HP.out _ (by go_grown)).mono ?_
  rintro e wz ⟨rfl, hb⟩
  have hB : Below w.heap.size w wz := Below.trans (by go_grown) (hb.mono (by simp))
  clear hb
  go_wp2_with fail
  refine bodyPost_ret (v := .tuple #[.int .i64 0, .int .i64 32]) (by simp [results, Try.results15, go_sem]) rfl ?_
  exact ⟨rfl, hB⟩

set_option maxHeartbeats 3200000 in
theorem srt_one {w : World} {B g mi mv mo : Nat} {v : Value} {ns : List Nd} (h : Gr w B g mi mv v mo ns) {n : Nd} (hf : Fi n) (hp : prt ns.length n = true) (ho : n.op = 1) :
    Calls Try.prog 15 #[.pointer (some ⟨g, 0, none⟩), .agg #[.int .i64 n.op, .int .i64 n.s, .int .i64 n.a, .int .i64 n.b, .int .i64 n.c, .int .i64 n.p, .int .i64 n.q, .int .i64 n.w, .int .u64 n.lo, .int .u64 n.hi, .string n.nm]] w fun e w' => e = .returned (.tuple #[.int .i64 (cstS n).1, .int .i64 (cstS n).2]) ∧ Below w.heap.size w w' := by
  have HP : Hid (∀ wx, Below w.heap.size w wx → Calls Try.prog 51 #[.pointer (some ⟨g, 0, none⟩), .agg #[.int .i64 n.op, .int .i64 n.s, .int .i64 n.a, .int .i64 n.b, .int .i64 n.c, .int .i64 n.p, .int .i64 n.q, .int .i64 n.w, .int .u64 n.lo, .int .u64 n.hi, .string n.nm]] wx fun e w' => e = .returned (.bool true) ∧ Below wx.heap.size wx w') := fun wx hb => by rw [← hp]; exact parts_any (h.below hb) n
  obtain ⟨E, hE⟩ : ∃ E, E = cstS n := ⟨_, rfl⟩
  have HS : Hid (∀ wx, Calls Try.prog 52 #[.agg #[.int .i64 n.op, .int .i64 n.s, .int .i64 n.a, .int .i64 n.b, .int .i64 n.c, .int .i64 n.p, .int .i64 n.q, .int .i64 n.w, .int .u64 n.lo, .int .u64 n.hi, .string n.nm]] wx fun e w' => e = .returned (.tuple #[.int .i64 E.1, .int .i64 E.2]) ∧ Below wx.heap.size wx w') := fun wx => by rw [hE]; exact cst_any hf wx
  rw [← hE]
  have z1 : (n.op == 1) = true := by simp [ho]
  clear h hp hE ho hf
  go_enter Try.func15, Try.ntmps15
  go_wp2_with fail
  refine (HP.out _ (by go_grown)).mono ?_
  rintro e wz ⟨rfl, hb⟩
  have hB : Below w.heap.size w wz := Below.trans (by go_grown) (hb.mono (by simp))
  have hc := box_cells hb
  have k0 := hc 0 _ rfl
  have k1 := hc 1 _ rfl
  have k2 := hc 2 _ rfl
  have k3 := hc 3 _ rfl
  have k4 := hc 4 _ rfl
  have k5 := hc 5 _ rfl
  have k6 := hc 6 _ rfl
  have k7 := hc 7 _ rfl
  have k8 := hc 8 _ rfl
  have k9 := hc 9 _ rfl
  have k10 := hc 10 _ rfl
  clear hb hc
  go_wp2_with fail
  refine (HS.out _).mono ?_
  rintro e w2 ⟨rfl, hb⟩
  have hB2 : Below w.heap.size w w2 := hB.trans (hb.mono hB.size)
  clear hb
  go_wp2_with fail
  refine bodyPost_ret (v := .tuple #[.int .i64 E.1, .int .i64 E.2]) (by simp [results, Try.results15, go_sem]) rfl ?_
  exact ⟨rfl, hB2⟩

set_option maxHeartbeats 3200000 in
theorem srt_two {w : World} {B g mi mv mo : Nat} {v : Value} {ns : List Nd} (h : Gr w B g mi mv v mo ns) {n : Nd} (hf : Fi n) (hp : prt ns.length n = true) (ho : n.op = 2) :
    Calls Try.prog 15 #[.pointer (some ⟨g, 0, none⟩), .agg #[.int .i64 n.op, .int .i64 n.s, .int .i64 n.a, .int .i64 n.b, .int .i64 n.c, .int .i64 n.p, .int .i64 n.q, .int .i64 n.w, .int .u64 n.lo, .int .u64 n.hi, .string n.nm]] w fun e w' => e = .returned (.tuple #[.int .i64 (varS ns n).1, .int .i64 (varS ns n).2]) ∧ Below w.heap.size w w' := by
  have HP : Hid (∀ wx, Below w.heap.size w wx → Calls Try.prog 51 #[.pointer (some ⟨g, 0, none⟩), .agg #[.int .i64 n.op, .int .i64 n.s, .int .i64 n.a, .int .i64 n.b, .int .i64 n.c, .int .i64 n.p, .int .i64 n.q, .int .i64 n.w, .int .u64 n.lo, .int .u64 n.hi, .string n.nm]] wx fun e w' => e = .returned (.bool true) ∧ Below wx.heap.size wx w') := fun wx hb => by rw [← hp]; exact parts_any (h.below hb) n
  obtain ⟨E, hE⟩ : ∃ E, E = varS ns n := ⟨_, rfl⟩
  have HS : Hid (∀ wx, Below w.heap.size w wx → Calls Try.prog 53 #[.pointer (some ⟨g, 0, none⟩), .agg #[.int .i64 n.op, .int .i64 n.s, .int .i64 n.a, .int .i64 n.b, .int .i64 n.c, .int .i64 n.p, .int .i64 n.q, .int .i64 n.w, .int .u64 n.lo, .int .u64 n.hi, .string n.nm]] wx fun e w' => e = .returned (.tuple #[.int .i64 E.1, .int .i64 E.2]) ∧ Below wx.heap.size wx w') := fun wx hb => by rw [hE]; exact vrs_any (h.below hb) hf
  rw [← hE]
  have z1 : (n.op == 1) = false := by simp [ho]
  have z2 : (n.op == 2) = true := by simp [ho]
  clear h hp hE ho hf
  go_enter Try.func15, Try.ntmps15
  go_wp2_with fail
  refine (HP.out _ (by go_grown)).mono ?_
  rintro e wz ⟨rfl, hb⟩
  have hB : Below w.heap.size w wz := Below.trans (by go_grown) (hb.mono (by simp))
  have hc := box_cells hb
  have k0 := hc 0 _ rfl
  have k1 := hc 1 _ rfl
  have k2 := hc 2 _ rfl
  have k3 := hc 3 _ rfl
  have k4 := hc 4 _ rfl
  have k5 := hc 5 _ rfl
  have k6 := hc 6 _ rfl
  have k7 := hc 7 _ rfl
  have k8 := hc 8 _ rfl
  have k9 := hc 9 _ rfl
  have k10 := hc 10 _ rfl
  clear hb hc
  go_wp2_with fail
  refine (HS.out _ hB).mono ?_
  rintro e w2 ⟨rfl, hb⟩
  have hB2 : Below w.heap.size w w2 := hB.trans (hb.mono hB.size)
  clear hb
  go_wp2_with fail
  refine bodyPost_ret (v := .tuple #[.int .i64 E.1, .int .i64 E.2]) (by simp [results, Try.results15, go_sem]) rfl ?_
  exact ⟨rfl, hB2⟩

set_option maxHeartbeats 6400000 in
theorem srt_else {w : World} {B g mi mv mo : Nat} {v : Value} {ns : List Nd} (h : Gr w B g mi mv v mo ns) {n : Nd} (hp : prt ns.length n = true) (h1 : ¬ n.op = 1) (h2 : ¬ n.op = 2) :
    Calls Try.prog 15 #[.pointer (some ⟨g, 0, none⟩), .agg #[.int .i64 n.op, .int .i64 n.s, .int .i64 n.a, .int .i64 n.b, .int .i64 n.c, .int .i64 n.p, .int .i64 n.q, .int .i64 n.w, .int .u64 n.lo, .int .u64 n.hi, .string n.nm]] w fun e w' => e = .returned (.tuple #[.int .i64 (srtF n.op n.p n.q (oss ns n)).1, .int .i64 (srtF n.op n.p n.q (oss ns n)).2]) ∧ Below w.heap.size w w' := by
  have HP : Hid (∀ wx, Below w.heap.size w wx → Calls Try.prog 51 #[.pointer (some ⟨g, 0, none⟩), .agg #[.int .i64 n.op, .int .i64 n.s, .int .i64 n.a, .int .i64 n.b, .int .i64 n.c, .int .i64 n.p, .int .i64 n.q, .int .i64 n.w, .int .u64 n.lo, .int .u64 n.hi, .string n.nm]] wx fun e w' => e = .returned (.bool true) ∧ Below wx.heap.size wx w') := fun wx hb => by rw [← hp]; exact parts_any (h.below hb) n
  have hk0 : 0 ≤ ari n.op := by
    apply Classical.byContradiction; intro hq
    rw [prt_ari (by omega)] at hp; cases hp
  have hk1 : 1 ≤ ari n.op := by
    unfold ari at hk0 ⊢
    split
    · rw [if_pos (by assumption)] at hk0; omega
    · rw [if_neg (by omega)]
      split <;> (try split) <;> omega
  have hk3 := ari_le n.op
  have hol : (oss ns n).length = (ari n.op).toNat := oss_len (k := (ari n.op).toNat) (by omega) (by omega)
  have HNE : Hid (oss ns n ≠ []) := fun e => by rw [e] at hol; simp at hol; omega
  have HL3 : Hid ((oss ns n).length ≤ 3) := by unfold Hid; omega
  have HQ : Hid (∀ wx, Below w.heap.size w wx → Calls Try.prog 54 #[.pointer (some ⟨g, 0, none⟩), .agg #[.int .i64 n.op, .int .i64 n.s, .int .i64 n.a, .int .i64 n.b, .int .i64 n.c, .int .i64 n.p, .int .i64 n.q, .int .i64 n.w, .int .u64 n.lo, .int .u64 n.hi, .string n.nm]] wx fun e w' => ∃ u, e = .returned u ∧ Is' w' wx.heap.size u (oss ns n) ∧ Below wx.heap.size wx w') := fun wx hb => osr_any (h.below hb) hp
  obtain ⟨O, hO⟩ : ∃ O, O = oss ns n := ⟨_, rfl⟩
  obtain ⟨E, hE⟩ : ∃ E, E = srtF n.op n.p n.q O := ⟨_, rfl⟩
  rw [← hO] at HNE HL3 HQ ⊢
  have HS : Hid (∀ wx (r cap : Nat), Li wx r 0 O → O.length ≤ cap → Calls Try.prog 12 #[.int .i64 n.op, .int .i64 n.p, .int .i64 n.q, .slice (some ⟨r, 0, none⟩) O.length cap] wx fun e w' => e = .returned (.tuple #[.int .i64 E.1, .int .i64 E.2]) ∧ Below wx.heap.size wx w') := fun wx r cap hl hc => by rw [hE]; exact sort_any hl (by have := HL3.out; omega) hc
  rw [← hE]
  have z1 : (n.op == 1) = false := by simp [h1]
  have z2 : (n.op == 2) = false := by simp [h2]
  clear h hp hE h1 h2 hk0 hk1 hk3 hol hO
  go_enter Try.func15, Try.ntmps15
  go_wp2_with fail
  refine (HP.out _ (by go_grown)).mono ?_
  rintro e wz ⟨rfl, hb⟩
  have hB : Below w.heap.size w wz := Below.trans (by go_grown) (hb.mono (by simp))
  have hc := box_cells hb
  have k0 := hc 0 _ rfl
  have k1 := hc 1 _ rfl
  have k2 := hc 2 _ rfl
  have k3 := hc 3 _ rfl
  have k4 := hc 4 _ rfl
  have k5 := hc 5 _ rfl
  have k6 := hc 6 _ rfl
  have k7 := hc 7 _ rfl
  have k8 := hc 8 _ rfl
  have k9 := hc 9 _ rfl
  have k10 := hc 10 _ rfl
  clear hb hc
  go_wp2_with fail
  go_region_held3 (fun x => x.cell? ⟨w.heap.size, 0, none⟩ = some (.int .i64 n.op) ∧ x.cell? ⟨w.heap.size, 1, none⟩ = some (.int .i64 n.s) ∧ x.cell? ⟨w.heap.size, 2, none⟩ = some (.int .i64 n.a) ∧ x.cell? ⟨w.heap.size, 3, none⟩ = some (.int .i64 n.b) ∧ x.cell? ⟨w.heap.size, 4, none⟩ = some (.int .i64 n.c) ∧ x.cell? ⟨w.heap.size, 5, none⟩ = some (.int .i64 n.p) ∧ x.cell? ⟨w.heap.size, 6, none⟩ = some (.int .i64 n.q) ∧ x.cell? ⟨w.heap.size, 7, none⟩ = some (.int .i64 n.w) ∧ x.cell? ⟨w.heap.size, 8, none⟩ = some (.int .u64 n.lo) ∧ x.cell? ⟨w.heap.size, 9, none⟩ = some (.int .u64 n.hi) ∧ x.cell? ⟨w.heap.size, 10, none⟩ = some (.string n.nm) ∧ Below w.heap.size w x)
    ((first | (obtain ⟨q0, q1, q2, q3, q4, q5, q6, q7, q8, q9, q10, qB⟩ := ‹_ ∧ _ ∧ _ ∧ _ ∧ _ ∧ _ ∧ _ ∧ _ ∧ _ ∧ _ ∧ _ ∧ _›; with_reducible exact ⟨keep_cell hb q0, keep_cell hb q1, keep_cell hb q2, keep_cell hb q3, keep_cell hb q4, keep_cell hb q5, keep_cell hb q6, keep_cell hb q7, keep_cell hb q8, keep_cell hb q9, keep_cell hb q10, below_step qB hb⟩) | (refine ⟨?_, ?_, ?_, ?_, ?_, ?_, ?_, ?_, ?_, ?_, ?_, hB.drew⟩ <;> simp [go_sem, k0, k1, k2, k3, k4, k5, k6, k7, k8, k9, k10])))
    ((first | (go_at_call 54; refine (HQ.out _ (by first | exact hB.drew | (obtain ⟨-, -, -, -, -, -, -, -, -, -, -, qB⟩ := ‹_ ∧ _ ∧ _ ∧ _ ∧ _ ∧ _ ∧ _ ∧ _ ∧ _ ∧ _ ∧ _ ∧ _›; exact qB))).mono ?_; rintro e w1 ⟨u, rfl, hI, hb⟩; obtain ⟨r, cap, rfl, -, hcap, hLi⟩ := hI.li HNE.out) | (go_at_call 12; refine (HS.out _ _ _ (by assumption) (by assumption)).mono ?_; rintro e w1 ⟨rfl, hb⟩)))
  obtain ⟨-, -, -, -, -, -, -, -, -, -, -, hBq⟩ := ‹_ ∧ _ ∧ _ ∧ _ ∧ _ ∧ _ ∧ _ ∧ _ ∧ _ ∧ _ ∧ _ ∧ _›
  go_wp2_with fail
  refine bodyPost_ret (v := .tuple #[.int .i64 E.1, .int .i64 E.2]) (by simp [results, Try.results15, go_sem]) rfl ?_
  exact ⟨rfl, hBq⟩

theorem sortOf_any {w : World} {B g mi mv mo : Nat} {v : Value} {ns : List Nd} (h : Gr w B g mi mv v mo ns) {n : Nd} (hf : Fi n) :
    Calls Try.prog 15 #[.pointer (some ⟨g, 0, none⟩), .agg #[.int .i64 n.op, .int .i64 n.s, .int .i64 n.a, .int .i64 n.b, .int .i64 n.c, .int .i64 n.p, .int .i64 n.q, .int .i64 n.w, .int .u64 n.lo, .int .u64 n.hi, .string n.nm]] w fun e w' => e = .returned (.tuple #[.int .i64 (srtOf ns n).1, .int .i64 (srtOf ns n).2]) ∧ Below w.heap.size w w' := by
  cases hp : prt ns.length n
  · have e : srtOf ns n = (0, 32) := by unfold srtOf; rw [if_pos hp]
    rw [e]
    exact srt_no h hp
  · by_cases h1 : n.op = 1
    · have e : srtOf ns n = cstS n := by unfold srtOf; rw [if_neg (by simp [hp]), if_pos h1]; rfl
      rw [e]
      exact srt_one h hf hp h1
    · by_cases h2 : n.op = 2
      · have e : srtOf ns n = varS ns n := by unfold srtOf; rw [if_neg (by simp [hp]), if_neg h1, if_pos h2]; rfl
        rw [e]
        exact srt_two h hf hp h2
      · have e : srtOf ns n = srtF n.op n.p n.q (oss ns n) := by unfold srtOf; rw [if_neg (by simp [hp]), if_neg h1, if_neg h2]
        rw [e]
        exact srt_else h hp h1 h2
end Go.Proofs.Ytnflphhckgeneaa
