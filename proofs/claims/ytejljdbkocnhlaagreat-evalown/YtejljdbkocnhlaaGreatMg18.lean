import Derived.Test.YtejljdbkocnhlaaGreatMg15
import Derived.Test.YtejljdbkocnhlaaGreatMg17
import Derived.Deep.QuietTactic
import Derived.BigQuiet
namespace Go.Proofs.YtejljdbkocnhlaaGreat
set_option maxHeartbeats 12800000
set_option maxRecDepth 100000
open Go.RowKit
set_option linter.unusedSimpArgs false
set_option linter.unusedVariables false
theorem zB_of {N : Nat} {n : Nd} {K : Nat} (hp : prt N n = false) (hK3 : K ≤ 3) (hKa : ari n.op = (K : Int)) (hz : n.op = 1 ∨ zB n.w n.lo n.hi = true) (hn : n.op = 2 ∨ n.nm.size = 0) : ¬ ∀ q : Nat, q < 3 → opB N (K : Int) (q : Int) (opn n q) = true := by
 intro h
 have ha := h 0 (by omega)
 have hb := h 1 (by omega)
 have hc := h 2 (by omega)
 have : prt N n = true := by
  rw [prt_eq hKa]
  simp only [Bool.and_eq_true, Bool.or_eq_true, decide_eq_true_eq, beq_iff_eq]
  exact ⟨⟨⟨⟨⟨by omega, ha⟩, hb⟩, hc⟩, hz⟩, hn⟩
 rw [this] at hp
 cases hp
theorem rbad_op {w : World} {gB : Nat} {n : Nd} (h : ari n.op < 0) :
  Rt 25 #[.pointer (some ⟨gB, 0, none⟩), .agg #[.int .i64 n.op, .int .i64 n.s, .int .i64 n.a, .int .i64 n.b, .int .i64 n.c, .int .i64 n.p, .int .i64 n.q, .int .i64 n.w, .int .u64 n.lo, .int .u64 n.hi, .string n.nm]] w (.tuple #[.int .i64 0, .int .i64 32]) := by
 obtain ⟨k, hk⟩ : ∃ k, k = ari n.op := ⟨_, rfl⟩
 have HA : Hid (∀ wx, Calls Tryz.prog 32 #[.int .i64 n.op] wx fun e w' => e = .returned (.int .i64 k) ∧ w' = wx) := fun wx => by rw [hk]; exact refarity_any _ wx
 rw [← hk] at h
 clear hk
 go_enter Tryz.func25, Tryz.ntmps25
 go_wp2_with fail
 refine (HA.out _).mono ?_
 rintro e wz ⟨rfl, hw⟩
 rw [hw]
 clear hw wz
 go_wp2_with fail
 refine bodyPost_ret (v := .tuple #[.int .i64 0, .int .i64 32]) (by simp [results, Tryz.results25, go_sem]) rfl ?_
 exact ⟨rfl, by go_grown⟩
theorem rbad_v {w : World} {gB K : Nat} {n : Nd} (hKa : ari n.op = (K : Int)) (h1 : ¬ n.op = 1) (hz : zB n.w n.lo n.hi = false) :
  Rt 25 #[.pointer (some ⟨gB, 0, none⟩), .agg #[.int .i64 n.op, .int .i64 n.s, .int .i64 n.a, .int .i64 n.b, .int .i64 n.c, .int .i64 n.p, .int .i64 n.q, .int .i64 n.w, .int .u64 n.lo, .int .u64 n.hi, .string n.nm]] w (.tuple #[.int .i64 0, .int .i64 32]) := by
 have HA : Hid (∀ wx, Calls Tryz.prog 32 #[.int .i64 n.op] wx fun e w' => e = .returned (.int .i64 (K : Int)) ∧ w' = wx) := fun wx => by rw [← hKa]; exact refarity_any _ wx
 have yA : (n.op != 1) = true := by simp [h1]
 have hnz : ∀ wx, (binOp .neq 34 (.agg #[.int .i64 n.w, .int .u64 n.lo, .int .u64 n.hi]) (.agg #[.int .i64 0, .int .u64 0, .int .u64 0])).run Tryz.prog wx = .ok (.bool true) wx := fun wx => by rw [neqz, hz]; rfl
 have hK0 : ¬ (K : Int) < 0 := by omega
 clear hKa h1 hz
 go_enter Tryz.func25, Tryz.ntmps25
 go_wp2_with fail
 refine (HA.out _).mono ?_
 rintro e wz ⟨rfl, hw⟩
 rw [hw]
 clear hw wz
 go_wp2_with fail
 refine bodyPost_ret (v := .tuple #[.int .i64 0, .int .i64 32]) (by simp [results, Tryz.results25, go_sem]) rfl ?_
 exact ⟨rfl, by go_grown⟩
theorem rbad_n {w : World} {gB K : Nat} {n : Nd} (hKa : ari n.op = (K : Int)) (hz : n.op = 1 ∨ zB n.w n.lo n.hi = true) (h2 : ¬ n.op = 2) (hn : ¬ n.nm.size = 0) :
  Rt 25 #[.pointer (some ⟨gB, 0, none⟩), .agg #[.int .i64 n.op, .int .i64 n.s, .int .i64 n.a, .int .i64 n.b, .int .i64 n.c, .int .i64 n.p, .int .i64 n.q, .int .i64 n.w, .int .u64 n.lo, .int .u64 n.hi, .string n.nm]] w (.tuple #[.int .i64 0, .int .i64 32]) := by
 have HA : Hid (∀ wx, Calls Tryz.prog 32 #[.int .i64 n.op] wx fun e w' => e = .returned (.int .i64 (K : Int)) ∧ w' = wx) := fun wx => by rw [← hKa]; exact refarity_any _ wx
 have yC : (n.op != 2) = true := by simp [h2]
 have hn0 := str_not hn
 have hn1 : (n.nm.toList == []) = false := by simp [hn0]
 have hn2 : n.nm.toList.isEmpty = false := by simp [hn0]
 have hn3 : (n.nm.toList != []) = true := by simp [hn0]
 have hK0 : ¬ (K : Int) < 0 := by omega
 clear hKa h2 hn
 by_cases h1 : n.op = 1
 ·have yA : (n.op != 1) = false := by simp [h1]
  clear h1 hz
  go_enter Tryz.func25, Tryz.ntmps25
  go_wp2_with fail
  refine (HA.out _).mono ?_
  rintro e wz ⟨rfl, hw⟩
  rw [hw]
  clear hw wz
  go_wp2_with fail
  refine bodyPost_ret (v := .tuple #[.int .i64 0, .int .i64 32]) (by simp [results, Tryz.results25, go_sem]) rfl ?_
  exact ⟨rfl, by go_grown⟩
 ·have hz' := hz.resolve_left h1
  have yA : (n.op != 1) = true := by simp [h1]
  have hnz : ∀ wx, (binOp .neq 34 (.agg #[.int .i64 n.w, .int .u64 n.lo, .int .u64 n.hi]) (.agg #[.int .i64 0, .int .u64 0, .int .u64 0])).run Tryz.prog wx = .ok (.bool false) wx := fun wx => by rw [neqz, hz']; rfl
  clear h1 hz hz'
  go_enter Tryz.func25, Tryz.ntmps25
  go_wp2_with fail
  refine (HA.out _).mono ?_
  rintro e wz ⟨rfl, hw⟩
  rw [hw]
  clear hw wz
  go_wp2_with fail
  refine bodyPost_ret (v := .tuple #[.int .i64 0, .int .i64 32]) (by simp [results, Tryz.results25, go_sem]) rfl ?_
  exact ⟨rfl, by go_grown⟩
theorem rbad_1 {w : World} {B gB mo K : Nat} {v : Value} {ns : List Nd} {n : Nd} (h : Rg w B gB v mo ns) (hop : n.op = 1) (hK3 : K ≤ 3) (hKa : ari n.op = (K : Int)) (hz : n.op = 1 ∨ zB n.w n.lo n.hi = true) (hpn : n.op = 2 ∨ n.nm.size = 0) (hq : ¬ ∀ q : Nat, q < 3 → opB ns.length (K : Int) (q : Int) (opn n q) = true) :
  Rt 25 #[.pointer (some ⟨gB, 0, none⟩), .agg #[.int .i64 n.op, .int .i64 n.s, .int .i64 n.a, .int .i64 n.b, .int .i64 n.c, .int .i64 n.p, .int .i64 n.q, .int .i64 n.w, .int .u64 n.lo, .int .u64 n.hi, .string n.nm]] w (.tuple #[.int .i64 0, .int .i64 32]) := by
 have hlen := h.len
 have HG : Hid _ := h
 have yA : (n.op != 1) = false := by simp [hop]
 have yC : (n.op != 2) = true := by simp [hop]
 have hnm := hpn.resolve_left (by omega)
 have hn0 := str_nil hnm
 have hn1 : (n.nm.toList == []) = true := by simp [hn0]
 have hn2 : n.nm.toList.isEmpty = true := by simp [hn0]
 have hn3 : (n.nm.toList != []) = false := by simp [hn0]
 have HA : Hid (∀ wx, Calls Tryz.prog 32 #[.int .i64 n.op] wx fun e w' => e = .returned (.int .i64 (K : Int)) ∧ w' = wx) := fun wx => by rw [← hKa]; exact refarity_any _ wx
 have HKQ : Hid _ := hq
 have hK0 : ¬ (K : Int) < 0 := by omega
 obtain ⟨t0, ht0, hz0, hz1, hz2⟩ := info_parts info3
 have HI0 : Hid (Tryz.prog.info? 3 = some t0 ∧ t0.zero = some (.int .i64 0) ∧ t0.size = 1 ∧ t0.bytes = 8) := ⟨ht0, hz0, hz1, hz2⟩
 have HB0 : Hid _ := Bx.made w n
 clear h hKa hq ht0 hz0 hz1 hz2 hop hz hpn hnm
 go_enter Tryz.func25, Tryz.ntmps25
 go_wp2_with fail
 refine (HA.out _).mono ?_
 rintro e wz ⟨rfl, hw⟩
 rw [hw]
 clear hw wz
 go_wp2_with fail
 go_loopw [8, 9] (fun v8 i wr => ∃ j : Nat, ∃ l : List Int, j ≤ 3 ∧ i = .int .i64 (j : Int) ∧ l.length ≤ j ∧ (∀ q : Nat, q < j → opB ns.length (K : Int) (q : Int) (opn n q) = true) ∧ Is' wr (w.heap.size + 2) v8 l ∧ Bx w wr n) (fun v8 i wr => 3 - (intOf i).toNat)
 case atStart => exact ⟨0, [], Nat.zero_le _, rfl, by simp, (fun q hq => by omega), World.ownsRow_nil _ _ _ _, HB0.out⟩
 case round =>
  clear HB0
  obtain ⟨j, l, hj, rfl, hlj, hsofar, hIs, hBx⟩ := hrel
  have HIS : Hid _ := hIs
  have HBX : Hid _ := hBx
  have HSF : Hid _ := hsofar
  have hsz := hBx.size
  have hB := hBx.bel
  clear hIs hBx hsofar
  by_cases hj3 : j < 3
  ·have hj3' : (j : Int) < 3 := by omega
   have ck := HBX.out.kid j hj3
   have HGR : Hid _ := HG.out.below hB
   obtain ⟨q, hq⟩ : ∃ q, q = opn n j := ⟨_, rfl⟩
   rw [← hq] at ck
   have HMORE : Hid (opB ns.length (K : Int) (j : Int) q = true → ∀ p : Nat, p < j + 1 → opB ns.length (K : Int) (p : Int) (opn n p) = true) := fun h p hp => by
    by_cases e : p = j
    ·subst e; rw [← hq]; exact h
    ·exact HSF.out p (by omega)
   clear hq
   by_cases hjK : j < K
   ·have x1 : (j : Int) < (K : Int) := by omega
    have x2 : ¬ (K : Int) ≤ (j : Int) := by omega
    cases hhb : hasB ns.length q
    ·have HAT : Hid _ := at_no HGR.out hhb
     clear hhb
     go_wp2_with fail
     refine Calls.mono HAT.out ?_
     rintro e w5 ⟨rfl, hb5⟩
     have hB5 : Below w.heap.size w w5 := hB.trans (hb5.mono hB.size)
     clear hb5
     go_wp2_with fail
     refine bodyPost_ret (v := .tuple #[.int .i64 0, .int .i64 32]) (by simp [results, Tryz.results25, go_sem]) rfl ?_
     exact ⟨rfl, hB5.alloc hB5.size _⟩
    ·obtain ⟨i, m, hi, rfl⟩ := has_node hhb
     have HAT : Hid _ := at_yes HGR.out hi
     have HM1 : Hid _ := HMORE.out (by rw [opB, if_pos x1]; exact hhb)
     clear hi hhb HMORE
     go_wp2_with fail
     refine Calls.mono HAT.out ?_
     rintro e w5 ⟨rfl, hb5⟩
     have HB5 : Hid _ := HBX.out.below hb5
     have HI5 : Hid (Is' w5 (w.heap.size + 2) u8 l) := row_kept HIS.out hb5.block
     have hsz5 : w.heap.size + 2 ≤ w5.heap.size := HB5.out.size
     have ck5 : w5.cell? ⟨w.heap.size + 1, j, none⟩ = some (.int .i64 ((i : Int) + 1)) := bel_cell hb5 (by omega) ck
     have hk5 : w.heap.size + 1 < w5.heap.size := by omega
     clear hb5 HIS HBX HAT ck
     go_wp2_with (at_builtin; refine wpList_append_own_at _ rfl _ _ 24 rfl (w.heap.size + 2) 3 t0 (.int .i64 0) 1 8 under45 HI0.out.1 HI0.out.2.1 HI0.out.2.2.1 HI0.out.2.2.2 rfl (by decide) _ _ _ rfl (row_kept (row_kept HI5.out (fun _ hq => heap_alloc_old _ _ hq)) (fun _ hq => heap_alloc_old _ _ hq)) _ 1 1 [.int .i64 m.s] rfl rfl (by intro j u hj; match j, hj with | 0, hj => simp at hj; subst hj; simp [Addr.add]) (ones [m.s]) (by unfold maxLen; omega) (by omega) (by rw [size_alloc', size_alloc']; omega) ?_; intro v1 w1 hown hgrow hnil hat)
     have hb1 : Below (w.heap.size + 2) w5 w1 := low_grown ((Below.refl _ _).alloc hsz5 _) (by rw [size_alloc']; omega) hgrow (fun q hq => (HI5.out.lt q hq).1)
     have HB1 : Hid _ := HB5.out.low hb1
     have HI1 : Hid (Is' w1 (w.heap.size + 2) v1 (l ++ [m.s])) := by
      unfold Hid Is'
      rw [List.map_append, List.length_append]
      exact hown
     clear hown hgrow hnil hat HI5 HB5 hb1
     go_wp2_with fail
     exact ⟨⟨j + 1, l ++ [m.s], by omega, by go_num, by simp; omega, HM1.out, HI1.out, HB1.out⟩, by simp [intOf]; omega⟩
   ·have x1 : ¬ (j : Int) < (K : Int) := by omega
    have x2 : (K : Int) ≤ (j : Int) := by omega
    by_cases hq0 : q = 0
    ·subst hq0
     have HAT : Hid _ := at_no HGR.out (i := 0) (by simp [hasB])
     have HM1 : Hid _ := HMORE.out (by rw [opB, if_neg x1]; rfl)
     clear HMORE
     go_wp2_with fail
     refine Calls.mono HAT.out ?_
     rintro e w5 ⟨rfl, hb5⟩
     have hb6 := hb5.alloc hb5.size (.cells #[.int .i64 0, .int .i64 0, .int .i64 0, .int .i64 0, .int .i64 0, .int .i64 0, .int .i64 0, .int .i64 0, .int .u64 0, .int .u64 0, .string ⟨#[]⟩] 53)
     have HB6 : Hid _ := HBX.out.below hb6
     have HI6 : Hid (Is' _ (w.heap.size + 2) u8 l) := row_kept HIS.out hb6.block
     have ck5 : w5.cell? ⟨w.heap.size + 1, j, none⟩ = some (.int .i64 0) := bel_cell hb5 (by omega) ck
     have hk5 : w.heap.size + 1 < w5.heap.size := by have := hb5.size; omega
     clear hb5 hb6 HIS HBX HAT ck
     go_wp2_with fail
     exact ⟨⟨j + 1, l, by omega, by go_num, by omega, HM1.out, HI6.out, HB6.out⟩, by simp [intOf]; omega⟩
    ·have q0 : (q != 0) = true := by simp [hq0]
     cases hhb : hasB ns.length q
     ·have HAT : Hid _ := at_no HGR.out hhb
      clear hhb hq0
      go_wp2_with fail
      refine Calls.mono HAT.out ?_
      rintro e w5 ⟨rfl, hb5⟩
      have hB5 : Below w.heap.size w w5 := hB.trans (hb5.mono hB.size)
      have ck5 : w5.cell? ⟨w.heap.size + 1, j, none⟩ = some (.int .i64 q) := bel_cell hb5 (by omega) ck
      have hk5 : w.heap.size + 1 < w5.heap.size := by have := hb5.size; omega
      clear hb5
      go_wp2_with fail
      refine bodyPost_ret (v := .tuple #[.int .i64 0, .int .i64 32]) (by simp [results, Tryz.results25, go_sem]) rfl ?_
      exact ⟨rfl, hB5.alloc hB5.size _⟩
     ·obtain ⟨i, m, hi, rfl⟩ := has_node hhb
      have HAT : Hid _ := at_yes HGR.out hi
      clear hi hhb hq0
      go_wp2_with fail
      refine Calls.mono HAT.out ?_
      rintro e w5 ⟨rfl, hb5⟩
      have hB5 : Below w.heap.size w w5 := hB.trans (hb5.mono hB.size)
      have ck5 : w5.cell? ⟨w.heap.size + 1, j, none⟩ = some (.int .i64 ((i : Int) + 1)) := bel_cell hb5 (by omega) ck
      have hk5 : w.heap.size + 1 < w5.heap.size := by have := hb5.size; omega
      clear hb5
      go_wp2_with fail
      refine bodyPost_ret (v := .tuple #[.int .i64 0, .int .i64 32]) (by simp [results, Tryz.results25, go_sem]) rfl ?_
      exact ⟨rfl, hB5.alloc hB5.size _⟩
  ·obtain rfl : j = 3 := by omega
   exact absurd HSF.out HKQ.out
theorem rbad_2 {w : World} {B gB mo K : Nat} {v : Value} {ns : List Nd} {n : Nd} (h : Rg w B gB v mo ns) (hop : n.op = 2) (hK3 : K ≤ 3) (hKa : ari n.op = (K : Int)) (hz : n.op = 1 ∨ zB n.w n.lo n.hi = true) (hpn : n.op = 2 ∨ n.nm.size = 0) (hq : ¬ ∀ q : Nat, q < 3 → opB ns.length (K : Int) (q : Int) (opn n q) = true) :
  Rt 25 #[.pointer (some ⟨gB, 0, none⟩), .agg #[.int .i64 n.op, .int .i64 n.s, .int .i64 n.a, .int .i64 n.b, .int .i64 n.c, .int .i64 n.p, .int .i64 n.q, .int .i64 n.w, .int .u64 n.lo, .int .u64 n.hi, .string n.nm]] w (.tuple #[.int .i64 0, .int .i64 32]) := by
 have hlen := h.len
 have HG : Hid _ := h
 have yA : (n.op != 1) = true := by simp [hop]
 have yC : (n.op != 2) = false := by simp [hop]
 have hz' := hz.resolve_left (by omega)
 have hnz : ∀ wx, (binOp .neq 34 (.agg #[.int .i64 n.w, .int .u64 n.lo, .int .u64 n.hi]) (.agg #[.int .i64 0, .int .u64 0, .int .u64 0])).run Tryz.prog wx = .ok (.bool false) wx := fun wx => by rw [neqz, hz']; rfl
 have HA : Hid (∀ wx, Calls Tryz.prog 32 #[.int .i64 n.op] wx fun e w' => e = .returned (.int .i64 (K : Int)) ∧ w' = wx) := fun wx => by rw [← hKa]; exact refarity_any _ wx
 have HKQ : Hid _ := hq
 have hK0 : ¬ (K : Int) < 0 := by omega
 obtain ⟨t0, ht0, hz0, hz1, hz2⟩ := info_parts info3
 have HI0 : Hid (Tryz.prog.info? 3 = some t0 ∧ t0.zero = some (.int .i64 0) ∧ t0.size = 1 ∧ t0.bytes = 8) := ⟨ht0, hz0, hz1, hz2⟩
 have HB0 : Hid _ := Bx.made w n
 clear h hKa hq ht0 hz0 hz1 hz2 hop hz hpn hz'
 go_enter Tryz.func25, Tryz.ntmps25
 go_wp2_with fail
 refine (HA.out _).mono ?_
 rintro e wz ⟨rfl, hw⟩
 rw [hw]
 clear hw wz
 go_wp2_with fail
 go_loopw [8, 9] (fun v8 i wr => ∃ j : Nat, ∃ l : List Int, j ≤ 3 ∧ i = .int .i64 (j : Int) ∧ l.length ≤ j ∧ (∀ q : Nat, q < j → opB ns.length (K : Int) (q : Int) (opn n q) = true) ∧ Is' wr (w.heap.size + 2) v8 l ∧ Bx w wr n) (fun v8 i wr => 3 - (intOf i).toNat)
 case atStart => exact ⟨0, [], Nat.zero_le _, rfl, by simp, (fun q hq => by omega), World.ownsRow_nil _ _ _ _, HB0.out⟩
 case round =>
  clear HB0
  obtain ⟨j, l, hj, rfl, hlj, hsofar, hIs, hBx⟩ := hrel
  have HIS : Hid _ := hIs
  have HBX : Hid _ := hBx
  have HSF : Hid _ := hsofar
  have hsz := hBx.size
  have hB := hBx.bel
  clear hIs hBx hsofar
  by_cases hj3 : j < 3
  ·have hj3' : (j : Int) < 3 := by omega
   have ck := HBX.out.kid j hj3
   have HGR : Hid _ := HG.out.below hB
   obtain ⟨q, hq⟩ : ∃ q, q = opn n j := ⟨_, rfl⟩
   rw [← hq] at ck
   have HMORE : Hid (opB ns.length (K : Int) (j : Int) q = true → ∀ p : Nat, p < j + 1 → opB ns.length (K : Int) (p : Int) (opn n p) = true) := fun h p hp => by
    by_cases e : p = j
    ·subst e; rw [← hq]; exact h
    ·exact HSF.out p (by omega)
   clear hq
   by_cases hjK : j < K
   ·have x1 : (j : Int) < (K : Int) := by omega
    have x2 : ¬ (K : Int) ≤ (j : Int) := by omega
    cases hhb : hasB ns.length q
    ·have HAT : Hid _ := at_no HGR.out hhb
     clear hhb
     go_wp2_with fail
     refine Calls.mono HAT.out ?_
     rintro e w5 ⟨rfl, hb5⟩
     have hB5 : Below w.heap.size w w5 := hB.trans (hb5.mono hB.size)
     clear hb5
     go_wp2_with fail
     refine bodyPost_ret (v := .tuple #[.int .i64 0, .int .i64 32]) (by simp [results, Tryz.results25, go_sem]) rfl ?_
     exact ⟨rfl, hB5.alloc hB5.size _⟩
    ·obtain ⟨i, m, hi, rfl⟩ := has_node hhb
     have HAT : Hid _ := at_yes HGR.out hi
     have HM1 : Hid _ := HMORE.out (by rw [opB, if_pos x1]; exact hhb)
     clear hi hhb HMORE
     go_wp2_with fail
     refine Calls.mono HAT.out ?_
     rintro e w5 ⟨rfl, hb5⟩
     have HB5 : Hid _ := HBX.out.below hb5
     have HI5 : Hid (Is' w5 (w.heap.size + 2) u8 l) := row_kept HIS.out hb5.block
     have hsz5 : w.heap.size + 2 ≤ w5.heap.size := HB5.out.size
     have ck5 : w5.cell? ⟨w.heap.size + 1, j, none⟩ = some (.int .i64 ((i : Int) + 1)) := bel_cell hb5 (by omega) ck
     have hk5 : w.heap.size + 1 < w5.heap.size := by omega
     clear hb5 HIS HBX HAT ck
     go_wp2_with (at_builtin; refine wpList_append_own_at _ rfl _ _ 24 rfl (w.heap.size + 2) 3 t0 (.int .i64 0) 1 8 under45 HI0.out.1 HI0.out.2.1 HI0.out.2.2.1 HI0.out.2.2.2 rfl (by decide) _ _ _ rfl (row_kept (row_kept HI5.out (fun _ hq => heap_alloc_old _ _ hq)) (fun _ hq => heap_alloc_old _ _ hq)) _ 1 1 [.int .i64 m.s] rfl rfl (by intro j u hj; match j, hj with | 0, hj => simp at hj; subst hj; simp [Addr.add]) (ones [m.s]) (by unfold maxLen; omega) (by omega) (by rw [size_alloc', size_alloc']; omega) ?_; intro v1 w1 hown hgrow hnil hat)
     have hb1 : Below (w.heap.size + 2) w5 w1 := low_grown ((Below.refl _ _).alloc hsz5 _) (by rw [size_alloc']; omega) hgrow (fun q hq => (HI5.out.lt q hq).1)
     have HB1 : Hid _ := HB5.out.low hb1
     have HI1 : Hid (Is' w1 (w.heap.size + 2) v1 (l ++ [m.s])) := by
      unfold Hid Is'
      rw [List.map_append, List.length_append]
      exact hown
     clear hown hgrow hnil hat HI5 HB5 hb1
     go_wp2_with fail
     exact ⟨⟨j + 1, l ++ [m.s], by omega, by go_num, by simp; omega, HM1.out, HI1.out, HB1.out⟩, by simp [intOf]; omega⟩
   ·have x1 : ¬ (j : Int) < (K : Int) := by omega
    have x2 : (K : Int) ≤ (j : Int) := by omega
    by_cases hq0 : q = 0
    ·subst hq0
     have HAT : Hid _ := at_no HGR.out (i := 0) (by simp [hasB])
     have HM1 : Hid _ := HMORE.out (by rw [opB, if_neg x1]; rfl)
     clear HMORE
     go_wp2_with fail
     refine Calls.mono HAT.out ?_
     rintro e w5 ⟨rfl, hb5⟩
     have hb6 := hb5.alloc hb5.size (.cells #[.int .i64 0, .int .i64 0, .int .i64 0, .int .i64 0, .int .i64 0, .int .i64 0, .int .i64 0, .int .i64 0, .int .u64 0, .int .u64 0, .string ⟨#[]⟩] 53)
     have HB6 : Hid _ := HBX.out.below hb6
     have HI6 : Hid (Is' _ (w.heap.size + 2) u8 l) := row_kept HIS.out hb6.block
     have ck5 : w5.cell? ⟨w.heap.size + 1, j, none⟩ = some (.int .i64 0) := bel_cell hb5 (by omega) ck
     have hk5 : w.heap.size + 1 < w5.heap.size := by have := hb5.size; omega
     clear hb5 hb6 HIS HBX HAT ck
     go_wp2_with fail
     exact ⟨⟨j + 1, l, by omega, by go_num, by omega, HM1.out, HI6.out, HB6.out⟩, by simp [intOf]; omega⟩
    ·have q0 : (q != 0) = true := by simp [hq0]
     cases hhb : hasB ns.length q
     ·have HAT : Hid _ := at_no HGR.out hhb
      clear hhb hq0
      go_wp2_with fail
      refine Calls.mono HAT.out ?_
      rintro e w5 ⟨rfl, hb5⟩
      have hB5 : Below w.heap.size w w5 := hB.trans (hb5.mono hB.size)
      have ck5 : w5.cell? ⟨w.heap.size + 1, j, none⟩ = some (.int .i64 q) := bel_cell hb5 (by omega) ck
      have hk5 : w.heap.size + 1 < w5.heap.size := by have := hb5.size; omega
      clear hb5
      go_wp2_with fail
      refine bodyPost_ret (v := .tuple #[.int .i64 0, .int .i64 32]) (by simp [results, Tryz.results25, go_sem]) rfl ?_
      exact ⟨rfl, hB5.alloc hB5.size _⟩
     ·obtain ⟨i, m, hi, rfl⟩ := has_node hhb
      have HAT : Hid _ := at_yes HGR.out hi
      clear hi hhb hq0
      go_wp2_with fail
      refine Calls.mono HAT.out ?_
      rintro e w5 ⟨rfl, hb5⟩
      have hB5 : Below w.heap.size w w5 := hB.trans (hb5.mono hB.size)
      have ck5 : w5.cell? ⟨w.heap.size + 1, j, none⟩ = some (.int .i64 ((i : Int) + 1)) := bel_cell hb5 (by omega) ck
      have hk5 : w.heap.size + 1 < w5.heap.size := by have := hb5.size; omega
      clear hb5
      go_wp2_with fail
      refine bodyPost_ret (v := .tuple #[.int .i64 0, .int .i64 32]) (by simp [results, Tryz.results25, go_sem]) rfl ?_
      exact ⟨rfl, hB5.alloc hB5.size _⟩
  ·obtain rfl : j = 3 := by omega
   exact absurd HSF.out HKQ.out
theorem rbad_3 {w : World} {B gB mo K : Nat} {v : Value} {ns : List Nd} {n : Nd} (h : Rg w B gB v mo ns) (hop1 : ¬ n.op = 1) (hop2 : ¬ n.op = 2) (hK3 : K ≤ 3) (hKa : ari n.op = (K : Int)) (hz : n.op = 1 ∨ zB n.w n.lo n.hi = true) (hpn : n.op = 2 ∨ n.nm.size = 0) (hq : ¬ ∀ q : Nat, q < 3 → opB ns.length (K : Int) (q : Int) (opn n q) = true) :
  Rt 25 #[.pointer (some ⟨gB, 0, none⟩), .agg #[.int .i64 n.op, .int .i64 n.s, .int .i64 n.a, .int .i64 n.b, .int .i64 n.c, .int .i64 n.p, .int .i64 n.q, .int .i64 n.w, .int .u64 n.lo, .int .u64 n.hi, .string n.nm]] w (.tuple #[.int .i64 0, .int .i64 32]) := by
 have hlen := h.len
 have HG : Hid _ := h
 have yA : (n.op != 1) = true := by simp [hop1]
 have yC : (n.op != 2) = true := by simp [hop2]
 have hz' := hz.resolve_left hop1
 have hnz : ∀ wx, (binOp .neq 34 (.agg #[.int .i64 n.w, .int .u64 n.lo, .int .u64 n.hi]) (.agg #[.int .i64 0, .int .u64 0, .int .u64 0])).run Tryz.prog wx = .ok (.bool false) wx := fun wx => by rw [neqz, hz']; rfl
 have hnm := hpn.resolve_left hop2
 have hn0 := str_nil hnm
 have hn1 : (n.nm.toList == []) = true := by simp [hn0]
 have hn2 : n.nm.toList.isEmpty = true := by simp [hn0]
 have hn3 : (n.nm.toList != []) = false := by simp [hn0]
 have HA : Hid (∀ wx, Calls Tryz.prog 32 #[.int .i64 n.op] wx fun e w' => e = .returned (.int .i64 (K : Int)) ∧ w' = wx) := fun wx => by rw [← hKa]; exact refarity_any _ wx
 have HKQ : Hid _ := hq
 have hK0 : ¬ (K : Int) < 0 := by omega
 obtain ⟨t0, ht0, hz0, hz1, hz2⟩ := info_parts info3
 have HI0 : Hid (Tryz.prog.info? 3 = some t0 ∧ t0.zero = some (.int .i64 0) ∧ t0.size = 1 ∧ t0.bytes = 8) := ⟨ht0, hz0, hz1, hz2⟩
 have HB0 : Hid _ := Bx.made w n
 clear h hKa hq ht0 hz0 hz1 hz2 hop1 hop2 hz hpn hz' hnm
 go_enter Tryz.func25, Tryz.ntmps25
 go_wp2_with fail
 refine (HA.out _).mono ?_
 rintro e wz ⟨rfl, hw⟩
 rw [hw]
 clear hw wz
 go_wp2_with fail
 go_loopw [8, 9] (fun v8 i wr => ∃ j : Nat, ∃ l : List Int, j ≤ 3 ∧ i = .int .i64 (j : Int) ∧ l.length ≤ j ∧ (∀ q : Nat, q < j → opB ns.length (K : Int) (q : Int) (opn n q) = true) ∧ Is' wr (w.heap.size + 2) v8 l ∧ Bx w wr n) (fun v8 i wr => 3 - (intOf i).toNat)
 case atStart => exact ⟨0, [], Nat.zero_le _, rfl, by simp, (fun q hq => by omega), World.ownsRow_nil _ _ _ _, HB0.out⟩
 case round =>
  clear HB0
  obtain ⟨j, l, hj, rfl, hlj, hsofar, hIs, hBx⟩ := hrel
  have HIS : Hid _ := hIs
  have HBX : Hid _ := hBx
  have HSF : Hid _ := hsofar
  have hsz := hBx.size
  have hB := hBx.bel
  clear hIs hBx hsofar
  by_cases hj3 : j < 3
  ·have hj3' : (j : Int) < 3 := by omega
   have ck := HBX.out.kid j hj3
   have HGR : Hid _ := HG.out.below hB
   obtain ⟨q, hq⟩ : ∃ q, q = opn n j := ⟨_, rfl⟩
   rw [← hq] at ck
   have HMORE : Hid (opB ns.length (K : Int) (j : Int) q = true → ∀ p : Nat, p < j + 1 → opB ns.length (K : Int) (p : Int) (opn n p) = true) := fun h p hp => by
    by_cases e : p = j
    ·subst e; rw [← hq]; exact h
    ·exact HSF.out p (by omega)
   clear hq
   by_cases hjK : j < K
   ·have x1 : (j : Int) < (K : Int) := by omega
    have x2 : ¬ (K : Int) ≤ (j : Int) := by omega
    cases hhb : hasB ns.length q
    ·have HAT : Hid _ := at_no HGR.out hhb
     clear hhb
     go_wp2_with fail
     refine Calls.mono HAT.out ?_
     rintro e w5 ⟨rfl, hb5⟩
     have hB5 : Below w.heap.size w w5 := hB.trans (hb5.mono hB.size)
     clear hb5
     go_wp2_with fail
     refine bodyPost_ret (v := .tuple #[.int .i64 0, .int .i64 32]) (by simp [results, Tryz.results25, go_sem]) rfl ?_
     exact ⟨rfl, hB5.alloc hB5.size _⟩
    ·obtain ⟨i, m, hi, rfl⟩ := has_node hhb
     have HAT : Hid _ := at_yes HGR.out hi
     have HM1 : Hid _ := HMORE.out (by rw [opB, if_pos x1]; exact hhb)
     clear hi hhb HMORE
     go_wp2_with fail
     refine Calls.mono HAT.out ?_
     rintro e w5 ⟨rfl, hb5⟩
     have HB5 : Hid _ := HBX.out.below hb5
     have HI5 : Hid (Is' w5 (w.heap.size + 2) u8 l) := row_kept HIS.out hb5.block
     have hsz5 : w.heap.size + 2 ≤ w5.heap.size := HB5.out.size
     have ck5 : w5.cell? ⟨w.heap.size + 1, j, none⟩ = some (.int .i64 ((i : Int) + 1)) := bel_cell hb5 (by omega) ck
     have hk5 : w.heap.size + 1 < w5.heap.size := by omega
     clear hb5 HIS HBX HAT ck
     go_wp2_with (at_builtin; refine wpList_append_own_at _ rfl _ _ 24 rfl (w.heap.size + 2) 3 t0 (.int .i64 0) 1 8 under45 HI0.out.1 HI0.out.2.1 HI0.out.2.2.1 HI0.out.2.2.2 rfl (by decide) _ _ _ rfl (row_kept (row_kept HI5.out (fun _ hq => heap_alloc_old _ _ hq)) (fun _ hq => heap_alloc_old _ _ hq)) _ 1 1 [.int .i64 m.s] rfl rfl (by intro j u hj; match j, hj with | 0, hj => simp at hj; subst hj; simp [Addr.add]) (ones [m.s]) (by unfold maxLen; omega) (by omega) (by rw [size_alloc', size_alloc']; omega) ?_; intro v1 w1 hown hgrow hnil hat)
     have hb1 : Below (w.heap.size + 2) w5 w1 := low_grown ((Below.refl _ _).alloc hsz5 _) (by rw [size_alloc']; omega) hgrow (fun q hq => (HI5.out.lt q hq).1)
     have HB1 : Hid _ := HB5.out.low hb1
     have HI1 : Hid (Is' w1 (w.heap.size + 2) v1 (l ++ [m.s])) := by
      unfold Hid Is'
      rw [List.map_append, List.length_append]
      exact hown
     clear hown hgrow hnil hat HI5 HB5 hb1
     go_wp2_with fail
     exact ⟨⟨j + 1, l ++ [m.s], by omega, by go_num, by simp; omega, HM1.out, HI1.out, HB1.out⟩, by simp [intOf]; omega⟩
   ·have x1 : ¬ (j : Int) < (K : Int) := by omega
    have x2 : (K : Int) ≤ (j : Int) := by omega
    by_cases hq0 : q = 0
    ·subst hq0
     have HAT : Hid _ := at_no HGR.out (i := 0) (by simp [hasB])
     have HM1 : Hid _ := HMORE.out (by rw [opB, if_neg x1]; rfl)
     clear HMORE
     go_wp2_with fail
     refine Calls.mono HAT.out ?_
     rintro e w5 ⟨rfl, hb5⟩
     have hb6 := hb5.alloc hb5.size (.cells #[.int .i64 0, .int .i64 0, .int .i64 0, .int .i64 0, .int .i64 0, .int .i64 0, .int .i64 0, .int .i64 0, .int .u64 0, .int .u64 0, .string ⟨#[]⟩] 53)
     have HB6 : Hid _ := HBX.out.below hb6
     have HI6 : Hid (Is' _ (w.heap.size + 2) u8 l) := row_kept HIS.out hb6.block
     have ck5 : w5.cell? ⟨w.heap.size + 1, j, none⟩ = some (.int .i64 0) := bel_cell hb5 (by omega) ck
     have hk5 : w.heap.size + 1 < w5.heap.size := by have := hb5.size; omega
     clear hb5 hb6 HIS HBX HAT ck
     go_wp2_with fail
     exact ⟨⟨j + 1, l, by omega, by go_num, by omega, HM1.out, HI6.out, HB6.out⟩, by simp [intOf]; omega⟩
    ·have q0 : (q != 0) = true := by simp [hq0]
     cases hhb : hasB ns.length q
     ·have HAT : Hid _ := at_no HGR.out hhb
      clear hhb hq0
      go_wp2_with fail
      refine Calls.mono HAT.out ?_
      rintro e w5 ⟨rfl, hb5⟩
      have hB5 : Below w.heap.size w w5 := hB.trans (hb5.mono hB.size)
      have ck5 : w5.cell? ⟨w.heap.size + 1, j, none⟩ = some (.int .i64 q) := bel_cell hb5 (by omega) ck
      have hk5 : w.heap.size + 1 < w5.heap.size := by have := hb5.size; omega
      clear hb5
      go_wp2_with fail
      refine bodyPost_ret (v := .tuple #[.int .i64 0, .int .i64 32]) (by simp [results, Tryz.results25, go_sem]) rfl ?_
      exact ⟨rfl, hB5.alloc hB5.size _⟩
     ·obtain ⟨i, m, hi, rfl⟩ := has_node hhb
      have HAT : Hid _ := at_yes HGR.out hi
      clear hi hhb hq0
      go_wp2_with fail
      refine Calls.mono HAT.out ?_
      rintro e w5 ⟨rfl, hb5⟩
      have hB5 : Below w.heap.size w w5 := hB.trans (hb5.mono hB.size)
      have ck5 : w5.cell? ⟨w.heap.size + 1, j, none⟩ = some (.int .i64 ((i : Int) + 1)) := bel_cell hb5 (by omega) ck
      have hk5 : w.heap.size + 1 < w5.heap.size := by have := hb5.size; omega
      clear hb5
      go_wp2_with fail
      refine bodyPost_ret (v := .tuple #[.int .i64 0, .int .i64 32]) (by simp [results, Tryz.results25, go_sem]) rfl ?_
      exact ⟨rfl, hB5.alloc hB5.size _⟩
  ·obtain rfl : j = 3 := by omega
   exact absurd HSF.out HKQ.out
theorem rmk_bad {w : World} {B gB mo : Nat} {v : Value} {ns : List Nd} {n : Nd} (h : Rg w B gB v mo ns) (hp : prt ns.length n = false) :
  Rt 25 #[.pointer (some ⟨gB, 0, none⟩), .agg #[.int .i64 n.op, .int .i64 n.s, .int .i64 n.a, .int .i64 n.b, .int .i64 n.c, .int .i64 n.p, .int .i64 n.q, .int .i64 n.w, .int .u64 n.lo, .int .u64 n.hi, .string n.nm]] w (.tuple #[.int .i64 0, .int .i64 32]) := by
 by_cases h0 : ari n.op < 0
 ·exact rbad_op h0
 ·have h3 := ari_le n.op
  obtain ⟨K, hKa⟩ : ∃ K : Nat, ari n.op = (K : Int) := ⟨(ari n.op).toNat, by omega⟩
  have hK3 : K ≤ 3 := by omega
  by_cases hz : n.op = 1 ∨ zB n.w n.lo n.hi = true
  ·by_cases hn : n.op = 2 ∨ n.nm.size = 0
   ·have hq := zB_of hp hK3 hKa hz hn
    by_cases h1 : n.op = 1
    ·exact rbad_1 h h1 hK3 hKa hz hn hq
    ·by_cases h2 : n.op = 2
     ·exact rbad_2 h h2 hK3 hKa hz hn hq
     ·exact rbad_3 h h1 h2 hK3 hKa hz hn hq
   ·exact rbad_n hKa hz (fun e => hn (Or.inl e)) (fun e => hn (Or.inr e))
  ·exact rbad_v hKa (fun e => hz (Or.inl e)) (by
    cases e : zB n.w n.lo n.hi
    ·rfl
    ·exact absurd (Or.inr e) hz)
theorem rmk_1 {w : World} {B gB mo : Nat} {v : Value} {ns ns' : List Nd} {n : Nd} {id er : Int} (h : Rg w B gB v mo ns) (hv : Inv ns) (ho : Ok n) (hp : prt ns.length n = true) (hop : n.op = 1) (hM : Mkd mo ns n id er ns') (hBw : B ≤ w.heap.size) :
  Calls Tryz.prog 25 #[.pointer (some ⟨gB, 0, none⟩), .agg #[.int .i64 n.op, .int .i64 n.s, .int .i64 n.a, .int .i64 n.b, .int .i64 n.c, .int .i64 n.p, .int .i64 n.q, .int .i64 n.w, .int .u64 n.lo, .int .u64 n.hi, .string n.nm]] w fun e w' => e = .returned (.tuple #[.int .i64 id, .int .i64 er]) ∧ ∃ v', Rg w' B gB v' mo ns' ∧ RChg w w' gB v ∧ (v'.ownBlock = v.ownBlock ∨ ∃ b, v'.ownBlock = some b ∧ w.heap.size ≤ b) := by
 have hlen := h.len
 have hg := h.lt
 have HG : Hid _ := h
 have HV : Hid _ := hv
 have HO : Hid _ := ho
 have HM : Hid _ := hM
 have HPR : Hid _ := hp
 obtain ⟨⟨K, hK3, hKa, hKq⟩, hpz, hpn⟩ := prt_parts hp
 have zA : (n.op == 1) = true := by simp [hop]
 have yA : (n.op != 1) = false := by simp [hop]
 have zC : (n.op == 2) = false := by simp [hop]
 have yC : (n.op != 2) = true := by simp [hop]
 have hnm := hpn.resolve_left (by omega)
 have hn0 := str_nil hnm
 have hn1 : (n.nm.toList == []) = true := by simp [hn0]
 have hn2 : n.nm.toList.isEmpty = true := by simp [hn0]
 have hn3 : (n.nm.toList != []) = false := by simp [hn0]
 clear hpz hpn hnm
 have HA : Hid (∀ wx, Calls Tryz.prog 32 #[.int .i64 n.op] wx fun e w' => e = .returned (.int .i64 (K : Int)) ∧ w' = wx) := fun wx => by rw [← hKa]; exact refarity_any _ wx
 have HKA : Hid _ := hKa
 have HKQ : Hid _ := hKq
 have hK0 : ¬ (K : Int) < 0 := by omega
 obtain ⟨t0, ht0, hz0, hz1, hz2⟩ := info_parts info3
 have HI0 : Hid (Tryz.prog.info? 3 = some t0 ∧ t0.zero = some (.int .i64 0) ∧ t0.size = 1 ∧ t0.bytes = 8) := ⟨ht0, hz0, hz1, hz2⟩
 have HB0 : Hid _ := Bx.made w n
 have HOP : Hid _ := hop
 clear h hv ho hM hp hKa hKq ht0 hz0 hz1 hz2 hop
 go_enter Tryz.func25, Tryz.ntmps25
 go_wp2_with fail
 refine (HA.out _).mono ?_
 rintro e wz ⟨rfl, hw⟩
 rw [hw]
 clear hw wz
 go_wp2_with fail
 go_loopw [8, 9] (fun v8 i wr => ∃ j : Nat, j ≤ 3 ∧ i = .int .i64 (j : Int) ∧ Is' wr (w.heap.size + 2) v8 ((oss ns n).take j) ∧ Bx w wr n) (fun v8 i wr => 3 - (intOf i).toNat)
 case atStart => exact ⟨0, Nat.zero_le _, rfl, World.ownsRow_nil _ _ _ _, HB0.out⟩
 case round =>
  clear HB0
  obtain ⟨j, hj, rfl, hIs, hBx⟩ := hrel
  have HIS : Hid _ := hIs
  have HBX : Hid _ := hBx
  have hsz := hBx.size
  clear hIs hBx
  by_cases hj3 : j < 3
  ·have hj3' : (j : Int) < 3 := by omega
   have ck := HBX.out.kid j hj3
   have hq := HKQ.out j hj3
   have HGR : Hid _ := HG.out.below HBX.out.bel
   by_cases hjK : j < K
   ·obtain ⟨i, m, hi, he, hos⟩ := opn_node (ns := ns) HKA.out hK3 HPR.out j hjK
    rw [he] at ck
    have HAT : Hid _ := at_yes HGR.out hi
    have HOS : Hid _ := oss_one hos
    have HLN : Hid (((oss ns n).take j).length ≤ 3) := by unfold Hid; rw [List.length_take]; omega
    have x1 : (j : Int) < (K : Int) := by omega
    have x2 : ¬ (K : Int) ≤ (j : Int) := by omega
    clear hi he hos hq
    go_wp2_with fail
    refine Calls.mono HAT.out ?_
    rintro e w5 ⟨rfl, hb5⟩
    have HB5 : Hid _ := HBX.out.below hb5
    have HI5 : Hid (Is' w5 (w.heap.size + 2) u8 ((oss ns n).take j)) := row_kept HIS.out hb5.block
    have hsz5 : w.heap.size + 2 ≤ w5.heap.size := HB5.out.size
    have ck5 : w5.cell? ⟨w.heap.size + 1, j, none⟩ = some (.int .i64 ((i : Int) + 1)) := bel_cell hb5 (by omega) ck
    have hk5 : w.heap.size + 1 < w5.heap.size := by omega
    clear hb5 HIS HBX HAT ck
    go_wp2_with (at_builtin; refine wpList_append_own_at _ rfl _ _ 24 rfl (w.heap.size + 2) 3 t0 (.int .i64 0) 1 8 under45 HI0.out.1 HI0.out.2.1 HI0.out.2.2.1 HI0.out.2.2.2 rfl (by decide) _ _ _ rfl (row_kept (row_kept HI5.out (fun _ hq => heap_alloc_old _ _ hq)) (fun _ hq => heap_alloc_old _ _ hq)) _ 1 1 [.int .i64 m.s] rfl rfl (by intro j u hj; match j, hj with | 0, hj => simp at hj; subst hj; simp [Addr.add]) (ones [m.s]) (by have := HLN.out; unfold maxLen; omega) (by have := HLN.out; omega) (by rw [size_alloc', size_alloc']; omega) ?_; intro v1 w1 hown hgrow hnil hat)
    have hb1 : Below (w.heap.size + 2) w5 w1 := low_grown ((Below.refl _ _).alloc hsz5 _) (by rw [size_alloc']; omega) hgrow (fun q hq => (HI5.out.lt q hq).1)
    have HB1 : Hid _ := HB5.out.low hb1
    have HI1 : Hid (Is' w1 (w.heap.size + 2) v1 ((oss ns n).take (j + 1))) := by
     unfold Hid Is'
     rw [HOS.out, List.map_append, List.length_append]
     exact hown
    clear hown hgrow hnil hat HI5 HB5 hb1
    go_wp2_with fail
    exact ⟨⟨j + 1, by omega, by go_num, HI1.out, HB1.out⟩, by simp [intOf]; omega⟩
   ·have hq0 : opn n j = 0 := by
     rw [opB, if_neg (by omega)] at hq
     exact of_decide_eq_true hq
    rw [hq0] at ck
    have HAT : Hid _ := at_no HGR.out (i := 0) (by simp [hasB])
    have HOS : Hid _ := oss_none (ns := ns) HKA.out hK3 (show K ≤ j by omega)
    have x1 : ¬ (j : Int) < (K : Int) := by omega
    have x2 : (K : Int) ≤ (j : Int) := by omega
    clear hq hq0
    go_wp2_with fail
    refine Calls.mono HAT.out ?_
    rintro e w5 ⟨rfl, hb5⟩
    have hb6 := hb5.alloc hb5.size (.cells #[.int .i64 0, .int .i64 0, .int .i64 0, .int .i64 0, .int .i64 0, .int .i64 0, .int .i64 0, .int .i64 0, .int .u64 0, .int .u64 0, .string ⟨#[]⟩] 53)
    have HB6 : Hid _ := HBX.out.below hb6
    have HI6 : Hid (Is' _ (w.heap.size + 2) u8 ((oss ns n).take j)) := row_kept HIS.out hb6.block
    have ck5 : w5.cell? ⟨w.heap.size + 1, j, none⟩ = some (.int .i64 0) := bel_cell hb5 (by omega) ck
    have hk5 : w.heap.size + 1 < w5.heap.size := by have := hb5.size; omega
    clear hb5 hb6 HIS HBX HAT ck
    go_wp2_with fail
    exact ⟨⟨j + 1, by omega, by go_num, by rw [HOS.out]; exact HI6.out, HB6.out⟩, by simp [intOf]; omega⟩
  ·obtain rfl : j = 3 := by omega
   rw [show ((3 : Nat) : Int) = 3 from rfl]
   have hB := HBX.out.bel
   have hb0 : w.heap.size < wr.heap.size := by omega
   have HGR : Hid _ := HG.out.below hB
   obtain ⟨r0, hr0⟩ : ∃ r0, r0 = rgt n.w n.lo n.hi := ⟨_, rfl⟩
   have HRT : Hid (∀ wx, Rt 30 #[.agg #[.int .i64 n.w, .int .u64 n.lo, .int .u64 n.hi]] wx (.bool r0)) := fun wx => by rw [hr0]; exact refright_all HO.out.fi.l0 HO.out.fi.l1 HO.out.fi.h0 HO.out.fi.h1 wx
   have HSR : Hid (srtOf ns n = if r0 && decide (n.w = n.s) && decide (n.p = 0) && decide (n.q = 0) then (n.s, 0) else (0, 30)) := by
    unfold Hid srtOf
    rw [if_neg (by rw [HPR.out]; decide), if_pos HOP.out, hr0]
   clear hr0
   have k0 : wr.cell? ⟨w.heap.size, 0, none⟩ = some (.int .i64 n.op) := cell_of HBX.out.box 0 rfl
   have k1 : wr.cell? ⟨w.heap.size, 1, none⟩ = some (.int .i64 n.s) := cell_of HBX.out.box 1 rfl
   have k2 : wr.cell? ⟨w.heap.size, 2, none⟩ = some (.int .i64 n.a) := cell_of HBX.out.box 2 rfl
   have k3 : wr.cell? ⟨w.heap.size, 3, none⟩ = some (.int .i64 n.b) := cell_of HBX.out.box 3 rfl
   have k4 : wr.cell? ⟨w.heap.size, 4, none⟩ = some (.int .i64 n.c) := cell_of HBX.out.box 4 rfl
   have k5 : wr.cell? ⟨w.heap.size, 5, none⟩ = some (.int .i64 n.p) := cell_of HBX.out.box 5 rfl
   have k6 : wr.cell? ⟨w.heap.size, 6, none⟩ = some (.int .i64 n.q) := cell_of HBX.out.box 6 rfl
   have k7 : wr.cell? ⟨w.heap.size, 7, none⟩ = some (.int .i64 n.w) := cell_of HBX.out.box 7 rfl
   have k8 : wr.cell? ⟨w.heap.size, 8, none⟩ = some (.int .u64 n.lo) := cell_of HBX.out.box 8 rfl
   have k9 : wr.cell? ⟨w.heap.size, 9, none⟩ = some (.int .u64 n.hi) := cell_of HBX.out.box 9 rfl
   have k10 : wr.cell? ⟨w.heap.size, 10, none⟩ = some (.string n.nm) := cell_of HBX.out.box 10 rfl
   by_cases hall : (r0 && decide (n.w = n.s) && decide (n.p = 0) && decide (n.q = 0)) = true
   ·have hs : srtOf ns n = (n.s, 0) := by rw [HSR.out, if_pos hall]
    simp only [Bool.and_eq_true, decide_eq_true_eq] at hall
    obtain ⟨⟨⟨rfl, h1⟩, h2⟩, h3⟩ := hall
    have q1 : (n.w != n.s) = false := by simp [h1]
    have q2 : (n.p != 0) = false := by simp [h2]
    have q3 : (n.q != 0) = false := by simp [h3]
    clear h1 h2 h3
    go_wp2_with fail
    refine (HRT.out _).mono ?_
    rintro e wT ⟨rfl, hbT⟩
    have hBT : Below w.heap.size w wT := hB.trans (hbT.mono hB.size)
    obtain ⟨n', hn'⟩ : ∃ n', n' = n.wi n.s := ⟨_, rfl⟩
    have HBT : Hid (wT.heap[w.heap.size]? = some (.cells n'.cs.toArray 53)) := by
     unfold Hid
     rw [hn', Nd.wi_self, hbT.block _ hb0]; exact HBX.out.box
    have e1 : wT.cell? ⟨w.heap.size, 1, none⟩ = some (.int .i64 n.s) := bel_cell hbT hb0 k1
    have e5 : wT.cell? ⟨w.heap.size, 5, none⟩ = some (.int .i64 n.p) := bel_cell hbT hb0 k5
    have e6 : wT.cell? ⟨w.heap.size, 6, none⟩ = some (.int .i64 n.q) := bel_cell hbT hb0 k6
    have e7 : wT.cell? ⟨w.heap.size, 7, none⟩ = some (.int .i64 n.w) := bel_cell hbT hb0 k7
    clear k0 k1 k2 k3 k4 k5 k6 k7 k8 k9 k10 hbT HIS HBX HGR
    obtain ⟨N, hN⟩ : ∃ N, N = ns.length := ⟨_, rfl⟩
    have HNN : Hid _ := hN
    have HDUP : Hid _ := HV.out.once
    obtain ⟨ad, cap, hvs⟩ := HG.out.sl
    have c0T : wT.cell? ⟨gB, 0, none⟩ = some v := bel_cell hBT hg HG.out.c0
    have cmT : wT.cell? ⟨gB, 1, none⟩ = some (.int .i64 (mo : Int)) := bel_cell hBT hg HG.out.c1
    have hgT : gB < wT.heap.size := Nat.lt_of_lt_of_le hg hBT.size
    have hb0T : w.heap.size < wT.heap.size := (Array.getElem?_eq_some_iff.1 HBT.out).1
    have hmo := HG.out.most
    have hmx := HG.out.room
    have HG0 : Hid _ := HG.out
    rw [hvs, ← hN] at c0T
    have C0T : Hid _ := c0T
    have CMT : Hid _ := cmT
    rw [← hN] at hmx hlen
    have HMO := HM.out.of_ok hs
    rw [← hn'] at HMO
    clear hs hN cmT c0T
    rcases HMO with ⟨i0, hi0, rfl, rfl, rfl⟩ | ⟨hno, hfin⟩
    ·have hi0l : i0 < N := by rw [HNN.out]; exact (List.getElem?_eq_some_iff.1 hi0).1
     have HI00 : Hid _ := hi0
     have HVS : Hid _ := hvs
     clear hi0 hn' hvs
     go_wp2_with fail
     go_loopw [16] (fun i wx => ∃ k : Nat, k ≤ i0 ∧ i = .int .i64 (k : Int) ∧ Below wT.heap.size wT wx) (fun i wx => N - (intOf i).toNat)
     case atStart => exact ⟨0, Nat.zero_le _, rfl, Below.refl _ _⟩
     case round =>
      obtain ⟨k, hk, rfl, hbk⟩ := hrel
      have hltk : k < N := by omega
      have c0 : wr.cell? ⟨gB, 0, none⟩ = some (.slice ad N cap) := bel_cell hbk hgT C0T.out
      have HGV : Hid _ := HG.out
      rw [HVS.out] at HGV
      obtain ⟨x, hx⟩ : ∃ x, ns[k]? = some x := ⟨_, List.getElem?_eq_getElem (by rw [← HNN.out]; exact hltk)⟩
      obtain ⟨r, cap', hvv, hBr, hrl, hc⟩ := row_all HGV.out.row (by rw [← HNN.out]; omega)
      obtain ⟨rfl, -, rfl⟩ : ad = some ⟨r, 0, none⟩ ∧ True ∧ cap = cap' := by simpa using hvv
      have d0 : wr.cell? ⟨r, k * 11, none⟩ = some (.int .i64 x.op) := bel_cell hbk (Nat.lt_of_lt_of_le hrl hBT.size) (bel_cell hBT hrl (hc k x hx 0 _ rfl))
      have d1 : wr.cell? ⟨r, k * 11 + 1, none⟩ = some (.int .i64 x.s) := bel_cell hbk (Nat.lt_of_lt_of_le hrl hBT.size) (bel_cell hBT hrl (hc k x hx 1 _ rfl))
      have d2 : wr.cell? ⟨r, k * 11 + 2, none⟩ = some (.int .i64 x.a) := bel_cell hbk (Nat.lt_of_lt_of_le hrl hBT.size) (bel_cell hBT hrl (hc k x hx 2 _ rfl))
      have d3 : wr.cell? ⟨r, k * 11 + 3, none⟩ = some (.int .i64 x.b) := bel_cell hbk (Nat.lt_of_lt_of_le hrl hBT.size) (bel_cell hBT hrl (hc k x hx 3 _ rfl))
      have d4 : wr.cell? ⟨r, k * 11 + 4, none⟩ = some (.int .i64 x.c) := bel_cell hbk (Nat.lt_of_lt_of_le hrl hBT.size) (bel_cell hBT hrl (hc k x hx 4 _ rfl))
      have d5 : wr.cell? ⟨r, k * 11 + 5, none⟩ = some (.int .i64 x.p) := bel_cell hbk (Nat.lt_of_lt_of_le hrl hBT.size) (bel_cell hBT hrl (hc k x hx 5 _ rfl))
      have d6 : wr.cell? ⟨r, k * 11 + 6, none⟩ = some (.int .i64 x.q) := bel_cell hbk (Nat.lt_of_lt_of_le hrl hBT.size) (bel_cell hBT hrl (hc k x hx 6 _ rfl))
      have d7 : wr.cell? ⟨r, k * 11 + 7, none⟩ = some (.int .i64 x.w) := bel_cell hbk (Nat.lt_of_lt_of_le hrl hBT.size) (bel_cell hBT hrl (hc k x hx 7 _ rfl))
      have d8 : wr.cell? ⟨r, k * 11 + 8, none⟩ = some (.int .u64 x.lo) := bel_cell hbk (Nat.lt_of_lt_of_le hrl hBT.size) (bel_cell hBT hrl (hc k x hx 8 _ rfl))
      have d9 : wr.cell? ⟨r, k * 11 + 9, none⟩ = some (.int .u64 x.hi) := bel_cell hbk (Nat.lt_of_lt_of_le hrl hBT.size) (bel_cell hBT hrl (hc k x hx 9 _ rfl))
      have d10 : wr.cell? ⟨r, k * 11 + 10, none⟩ = some (.string x.nm) := bel_cell hbk (Nat.lt_of_lt_of_le hrl hBT.size) (bel_cell hBT hrl (hc k x hx 10 _ rfl))
      have b0 : wr.cell? ⟨w.heap.size, 0, none⟩ = some (.int .i64 n'.op) := bel_cell hbk hb0T (cell_of HBT.out 0 rfl)
      have b1 : wr.cell? ⟨w.heap.size, 1, none⟩ = some (.int .i64 n'.s) := bel_cell hbk hb0T (cell_of HBT.out 1 rfl)
      have b2 : wr.cell? ⟨w.heap.size, 2, none⟩ = some (.int .i64 n'.a) := bel_cell hbk hb0T (cell_of HBT.out 2 rfl)
      have b3 : wr.cell? ⟨w.heap.size, 3, none⟩ = some (.int .i64 n'.b) := bel_cell hbk hb0T (cell_of HBT.out 3 rfl)
      have b4 : wr.cell? ⟨w.heap.size, 4, none⟩ = some (.int .i64 n'.c) := bel_cell hbk hb0T (cell_of HBT.out 4 rfl)
      have b5 : wr.cell? ⟨w.heap.size, 5, none⟩ = some (.int .i64 n'.p) := bel_cell hbk hb0T (cell_of HBT.out 5 rfl)
      have b6 : wr.cell? ⟨w.heap.size, 6, none⟩ = some (.int .i64 n'.q) := bel_cell hbk hb0T (cell_of HBT.out 6 rfl)
      have b7 : wr.cell? ⟨w.heap.size, 7, none⟩ = some (.int .i64 n'.w) := bel_cell hbk hb0T (cell_of HBT.out 7 rfl)
      have b8 : wr.cell? ⟨w.heap.size, 8, none⟩ = some (.int .u64 n'.lo) := bel_cell hbk hb0T (cell_of HBT.out 8 rfl)
      have b9 : wr.cell? ⟨w.heap.size, 9, none⟩ = some (.int .u64 n'.hi) := bel_cell hbk hb0T (cell_of HBT.out 9 rfl)
      have b10 : wr.cell? ⟨w.heap.size, 10, none⟩ = some (.string n'.nm) := bel_cell hbk hb0T (cell_of HBT.out 10 rfl)
      have k1 : (k : Int) < (N : Int) := by omega
      by_cases e : k = i0
      ·subst e
       have hxn : x = n' := Option.some.inj (hx.symm.trans HI00.out)
       subst hxn
       have hcmp := same_nd x
       clear hx hc hvv
       go_wp2_with fail
       go_quiet (fail)
       go_wp2_with fail
       refine bodyPost_ret (v := .tuple #[.int .i64 ((k : Int) + 1), .int .i64 0]) (by simp [results, Tryz.results25, go_sem]) rfl ?_
       exact ⟨rfl, _, HG0.out.below (hBT.trans (below_drewN (hbk.mono hBT.size) _)), RChg.of (hBT.trans (below_drewN (hbk.mono hBT.size) _)), Or.inl rfl⟩
      ·have hxn : x ≠ n' := fun e2 => by
        obtain ⟨h1, e1⟩ := List.getElem?_eq_some_iff.1 hx
        obtain ⟨h2, e3⟩ := List.getElem?_eq_some_iff.1 HI00.out
        exact List.pairwise_iff_getElem.1 HDUP.out k i0 h1 h2 (by omega) (by rw [e1, e3, e2])
       have hcmp := ne_nd hxn
       clear hx hc hvv
       go_wp2_with fail
       go_quiet (fail)
       go_wp2_with fail
       exact ⟨⟨k + 1, by omega, by go_num, below_drewN hbk _⟩, by simp [intOf]; omega⟩
    ·have HNO : Hid _ := hno
     have HVS : Hid _ := hvs
     clear hno hn' hvs
     go_wp2_with fail
     go_loopw [16] (fun i wx => ∃ k : Nat, k ≤ N ∧ i = .int .i64 (k : Int) ∧ Below wT.heap.size wT wx) (fun i wx => N - (intOf i).toNat)
     case atStart => exact ⟨0, Nat.zero_le _, rfl, Below.refl _ _⟩
     case round =>
      obtain ⟨k, hk, rfl, hbk⟩ := hrel
      have c0 : wr.cell? ⟨gB, 0, none⟩ = some (.slice ad N cap) := bel_cell hbk hgT C0T.out
      have HGV : Hid _ := HG.out
      rw [HVS.out] at HGV
      by_cases hltk : k < N
      ·skip
       obtain ⟨x, hx⟩ : ∃ x, ns[k]? = some x := ⟨_, List.getElem?_eq_getElem (by rw [← HNN.out]; exact hltk)⟩
       obtain ⟨r, cap', hvv, hBr, hrl, hc⟩ := row_all HGV.out.row (by rw [← HNN.out]; omega)
       obtain ⟨rfl, -, rfl⟩ : ad = some ⟨r, 0, none⟩ ∧ True ∧ cap = cap' := by simpa using hvv
       have d0 : wr.cell? ⟨r, k * 11, none⟩ = some (.int .i64 x.op) := bel_cell hbk (Nat.lt_of_lt_of_le hrl hBT.size) (bel_cell hBT hrl (hc k x hx 0 _ rfl))
       have d1 : wr.cell? ⟨r, k * 11 + 1, none⟩ = some (.int .i64 x.s) := bel_cell hbk (Nat.lt_of_lt_of_le hrl hBT.size) (bel_cell hBT hrl (hc k x hx 1 _ rfl))
       have d2 : wr.cell? ⟨r, k * 11 + 2, none⟩ = some (.int .i64 x.a) := bel_cell hbk (Nat.lt_of_lt_of_le hrl hBT.size) (bel_cell hBT hrl (hc k x hx 2 _ rfl))
       have d3 : wr.cell? ⟨r, k * 11 + 3, none⟩ = some (.int .i64 x.b) := bel_cell hbk (Nat.lt_of_lt_of_le hrl hBT.size) (bel_cell hBT hrl (hc k x hx 3 _ rfl))
       have d4 : wr.cell? ⟨r, k * 11 + 4, none⟩ = some (.int .i64 x.c) := bel_cell hbk (Nat.lt_of_lt_of_le hrl hBT.size) (bel_cell hBT hrl (hc k x hx 4 _ rfl))
       have d5 : wr.cell? ⟨r, k * 11 + 5, none⟩ = some (.int .i64 x.p) := bel_cell hbk (Nat.lt_of_lt_of_le hrl hBT.size) (bel_cell hBT hrl (hc k x hx 5 _ rfl))
       have d6 : wr.cell? ⟨r, k * 11 + 6, none⟩ = some (.int .i64 x.q) := bel_cell hbk (Nat.lt_of_lt_of_le hrl hBT.size) (bel_cell hBT hrl (hc k x hx 6 _ rfl))
       have d7 : wr.cell? ⟨r, k * 11 + 7, none⟩ = some (.int .i64 x.w) := bel_cell hbk (Nat.lt_of_lt_of_le hrl hBT.size) (bel_cell hBT hrl (hc k x hx 7 _ rfl))
       have d8 : wr.cell? ⟨r, k * 11 + 8, none⟩ = some (.int .u64 x.lo) := bel_cell hbk (Nat.lt_of_lt_of_le hrl hBT.size) (bel_cell hBT hrl (hc k x hx 8 _ rfl))
       have d9 : wr.cell? ⟨r, k * 11 + 9, none⟩ = some (.int .u64 x.hi) := bel_cell hbk (Nat.lt_of_lt_of_le hrl hBT.size) (bel_cell hBT hrl (hc k x hx 9 _ rfl))
       have d10 : wr.cell? ⟨r, k * 11 + 10, none⟩ = some (.string x.nm) := bel_cell hbk (Nat.lt_of_lt_of_le hrl hBT.size) (bel_cell hBT hrl (hc k x hx 10 _ rfl))
       have b0 : wr.cell? ⟨w.heap.size, 0, none⟩ = some (.int .i64 n'.op) := bel_cell hbk hb0T (cell_of HBT.out 0 rfl)
       have b1 : wr.cell? ⟨w.heap.size, 1, none⟩ = some (.int .i64 n'.s) := bel_cell hbk hb0T (cell_of HBT.out 1 rfl)
       have b2 : wr.cell? ⟨w.heap.size, 2, none⟩ = some (.int .i64 n'.a) := bel_cell hbk hb0T (cell_of HBT.out 2 rfl)
       have b3 : wr.cell? ⟨w.heap.size, 3, none⟩ = some (.int .i64 n'.b) := bel_cell hbk hb0T (cell_of HBT.out 3 rfl)
       have b4 : wr.cell? ⟨w.heap.size, 4, none⟩ = some (.int .i64 n'.c) := bel_cell hbk hb0T (cell_of HBT.out 4 rfl)
       have b5 : wr.cell? ⟨w.heap.size, 5, none⟩ = some (.int .i64 n'.p) := bel_cell hbk hb0T (cell_of HBT.out 5 rfl)
       have b6 : wr.cell? ⟨w.heap.size, 6, none⟩ = some (.int .i64 n'.q) := bel_cell hbk hb0T (cell_of HBT.out 6 rfl)
       have b7 : wr.cell? ⟨w.heap.size, 7, none⟩ = some (.int .i64 n'.w) := bel_cell hbk hb0T (cell_of HBT.out 7 rfl)
       have b8 : wr.cell? ⟨w.heap.size, 8, none⟩ = some (.int .u64 n'.lo) := bel_cell hbk hb0T (cell_of HBT.out 8 rfl)
       have b9 : wr.cell? ⟨w.heap.size, 9, none⟩ = some (.int .u64 n'.hi) := bel_cell hbk hb0T (cell_of HBT.out 9 rfl)
       have b10 : wr.cell? ⟨w.heap.size, 10, none⟩ = some (.string n'.nm) := bel_cell hbk hb0T (cell_of HBT.out 10 rfl)
       have k1 : (k : Int) < (N : Int) := by omega
       have hxn : x ≠ n' := fun e2 => HNO.out (by rw [← e2]; exact List.mem_of_getElem? hx)
       have hcmp := ne_nd hxn
       clear hx hc hvv
       go_wp2_with fail
       go_quiet (fail)
       go_wp2_with fail
       exact ⟨⟨k + 1, by omega, by go_num, below_drewN hbk _⟩, by simp [intOf]; omega⟩
      ·obtain rfl : k = N := by omega
       have k1 : ¬ (k : Int) < (k : Int) := by omega
       have cm : wr.cell? ⟨gB, 1, none⟩ = some (.int .i64 (mo : Int)) := bel_cell hbk hgT CMT.out
       rcases hfin with ⟨hl, rfl, rfl, rfl⟩ | ⟨hl, rfl, rfl, rfl⟩
       ·rw [← HNN.out] at hl
        have y1 : (mo : Int) ≤ (k : Int) := by omega
        clear hl
        go_wp2_with fail
        go_quiet (fail)
        go_wp2_with fail
        refine bodyPost_ret (v := .tuple #[.int .i64 0, .int .i64 33]) (by simp [results, Tryz.results25, go_sem]) rfl ?_
        exact ⟨rfl, _, HG0.out.below (hBT.trans (below_drewN (hbk.mono hBT.size) _)), RChg.of (hBT.trans (below_drewN (hbk.mono hBT.size) _)), Or.inl rfl⟩
       ·rw [← HNN.out] at hl
        have y1 : ¬ (mo : Int) ≤ (k : Int) := by omega
        have HLL : Hid _ := hl
        clear hl
        go_wp2_with fail
        go_quiet (fail)
        go_wp2_with fail
        obtain ⟨wU, hwU⟩ : ∃ wU, wU = wr.drewN nq := ⟨_, rfl⟩
        have hBU : Below w.heap.size w wU := by rw [hwU]; exact hBT.trans (below_drewN (hbk.mono hBT.size) _)
        have hTU : Below wT.heap.size wT wU := by rw [hwU]; exact below_drewN hbk _
        rw [← hwU]
        clear hwU
        have hgU : gB < wU.heap.size := Nat.lt_of_lt_of_le hg hBU.size
        have HHD : Hid (wU.heap[gB]? = some (.cells #[v, .int .i64 (mo : Int)] 31)) := (hBU.block gB hg).trans HG.out.hd
        have HBB : Hid (wU.heap[w.heap.size]? = some (.cells n'.cs.toArray 53)) := (hTU.block _ hb0T).trans HBT.out
        have HBN : Hid (some w.heap.size ≠ v.ownBlock ∧ w.heap.size ≠ gB) := ⟨fun e => by have := (HG.out.row.lt _ e.symm).2; omega, by omega⟩
        have HW : Hid (wU.ownsRow B 53 11 v ns.length (ns.flatMap Nd.cs)) := (HG.out.below hBU).row
        have HNE : Hid _ := HG.out.far
        have HBV : Hid (∀ k, v.ownBlock = some k → k < wU.heap.size) := fun k hk => Nat.lt_of_lt_of_le (HG.out.row.lt k hk).2 hBU.size
        have hlen2 : ns.length ≤ 4096 := by rw [← HNN.out]; exact hlen
        have hBwU : B ≤ wU.heap.size := Nat.le_trans hBw hBU.size
        obtain ⟨t36, ht0, hz0, hz1, hz2⟩ := info_parts info36
        have HI36 : Hid _ := (⟨ht0, hz0, hz1, hz2⟩ : Tryz.prog.info? 53 = some t36 ∧ t36.zero = _ ∧ t36.size = 11 ∧ t36.bytes = 96)
        clear ht0 hz0 hz1 hz2 c0 cm k1 y1
        refine wp_named fun a0 ha0 => ?_
        have o0 := old_at ha0 (t := 0) rfl
        have o3 := old_at ha0 (t := 3) rfl
        refine wp_region_lin (S := RSt wU B gB v mo ns n') [6, 7] (fun _ => 0) (by kernel_rfl) (by kernel_rfl) (by rw [← ha0]; kernel_rfl) ?_ ?_
        ·exact ⟨(fun e => by cases e), (fun e => by cases e), Nat.le_refl _, rfl, rfl, rfl, (fun k hk _ _ => rfl), (fun e => by cases e), (fun e => by cases e), (fun e => by cases e)⟩
        refine' LinAll.cons _ ?_ ?_ ?_
        rotate_left 1
        ·intro g L a x hLi haft hS hK; have t0 := (hK.old 0 (by kernel_rfl)).trans o0; refine go_in (wanted_all rfl) ?_; intro K hk; clear haft hK hLi; go_simp; exact hk.out g x (fun _ _ => rfl) (hS.go rfl)
        ·intro i hi; exact Or.inl (fun _ _ _ => rfl)
        refine' LinAll.cons _ ?_ ?_ ?_
        rotate_left 1
        ·intro g L a x hLi haft hS hK; have t0 := (hK.old 0 (by kernel_rfl)).trans o0; refine go_in (wanted_all rfl) ?_; intro K hk; clear haft hK hLi; go_simp; exact hk.out g x (fun _ _ => rfl) (hS.go rfl)
        ·intro i hi; exact Or.inl (fun _ _ _ => rfl)
        refine' LinAll.cons _ ?_ ?_ ?_
        rotate_left 1
        ·intro g L a x hLi haft hS hK; have t7 := hK.nw haft 1 0 206 rfl (by kernel_rfl); (try dsimp only at t7); refine go_in (wanted_all rfl) ?_; intro K hk; clear haft hK hLi; go_simp; exact hk.out g x (fun _ _ => rfl) (hS.go rfl)
        ·intro i hi; exact Or.inl (fun _ _ _ => rfl)
        refine' LinAll.cons _ ?_ ?_ ?_
        rotate_left 1
        ·intro g L a x hLi haft hS hK; have t8 := hK.nw haft 2 0 207 rfl (by kernel_rfl); (try dsimp only at t8); refine go_in (wanted_all rfl) ?_; intro K hk; clear haft hK hLi; go_simp; exact hk.out g x (fun _ _ => rfl) (hS.go rfl)
        ·intro i hi; exact Or.inl (fun _ _ _ => rfl)
        refine' LinAll.cons _ ?_ ?_ ?_
        rotate_left 1
        ·intro g L a x hLi haft hS hK; have t9 := hK.nw haft 3 0 208 rfl (by kernel_rfl); (try dsimp only at t9)
         have h7 : L 7 = false := by
          cases e : L 7
          ·rfl
          ·rw [(hS.d7 e).1] at hLi; cases hLi
         have h10 := hS.no10 h7
         have c1 : x.cell? ⟨gB, 0, none⟩ = some v := cell_of ((hS.kp gB hgU (fun e => by rw [h7] at e; cases e) (fun e => by rw [h10] at e; cases e)).trans HHD.out) 0 rfl
         clear h7 h10
         refine go_in (wanted_all rfl) ?_; intro K hk; clear haft hK hLi; go_simp; exact hk.out g x (fun _ _ => rfl) (hS.go rfl)
        ·intro i hi; exact Or.inl (fun _ _ _ => rfl)
        refine' LinAll.cons _ ?_ ?_ ?_
        rotate_left 1
        ·intro g L a x hLi haft hS hK; have t3 := (hK.old 3 (by kernel_rfl)).trans o3; have hbx := hS.old HBB.out (Array.getElem?_eq_some_iff.1 HBB.out).1 HBN.out.1 HBN.out.2; have c0 : x.cell? ⟨w.heap.size, 0, none⟩ = some (.int .i64 n'.op) := cell_of hbx 0 rfl; have c1 : x.cell? ⟨w.heap.size, 1, none⟩ = some (.int .i64 n'.s) := cell_of hbx 1 rfl; have c2 : x.cell? ⟨w.heap.size, 2, none⟩ = some (.int .i64 n'.a) := cell_of hbx 2 rfl; have c3 : x.cell? ⟨w.heap.size, 3, none⟩ = some (.int .i64 n'.b) := cell_of hbx 3 rfl; have c4 : x.cell? ⟨w.heap.size, 4, none⟩ = some (.int .i64 n'.c) := cell_of hbx 4 rfl; have c5 : x.cell? ⟨w.heap.size, 5, none⟩ = some (.int .i64 n'.p) := cell_of hbx 5 rfl; have c6 : x.cell? ⟨w.heap.size, 6, none⟩ = some (.int .i64 n'.q) := cell_of hbx 6 rfl; have c7 : x.cell? ⟨w.heap.size, 7, none⟩ = some (.int .i64 n'.w) := cell_of hbx 7 rfl; have c8 : x.cell? ⟨w.heap.size, 8, none⟩ = some (.int .u64 n'.lo) := cell_of hbx 8 rfl; have c9 : x.cell? ⟨w.heap.size, 9, none⟩ = some (.int .u64 n'.hi) := cell_of hbx 9 rfl; have c10 : x.cell? ⟨w.heap.size, 10, none⟩ = some (.string n'.nm) := cell_of hbx 10 rfl; clear hbx; refine go_in (wanted_all rfl) ?_; intro K hk; clear haft hK hLi; go_simp; exact hk.out g x (fun _ _ => rfl) (hS.go rfl)
        ·intro i hi; exact Or.inl (fun _ _ _ => rfl)
        refine LinAll.cons (fun g => .slice (some ⟨g 6, 0, none⟩) 1 1) ?_ ?_ ?_
        ·intro g L a x hLi haft hS hK; have t11 := hK.nw haft 5 0 210 rfl (by kernel_rfl); (try dsimp only at t11); refine go_in (wanted_all rfl) ?_; intro K hk; clear haft hK; go_simp
         have hq := hk.out (updG g 6 x.heap.size) _ (updG_al (by rfl)) (hS.built hLi)
         dsimp only at hq; rw [updG_eq] at hq; exact hq
        ·intro i hi; simp only [List.mem_cons, List.not_mem_nil, or_false] at hi; rcases hi with rfl | rfl; exact Or.inr (by kernel_rfl); exact Or.inl (fun g g' h => by simp only [h 6 (by decide)])
        refine LinAll.cons (fun g => sl (ns.length + 1) (g 7)) ?_ ?_ ?_
        ·intro g L a x hLi haft hS hK
         have hL4 := waits haft 4 (by kernel_rfl)
         have hL6 := waits haft 6 (by kernel_rfl)
         have t10 := hK.new 4 2 _ 209 _ rfl rfl rfl (by kernel_rfl) hL4
         have t12 := hK.new 6 0 _ 211 _ rfl rfl rfl (by kernel_rfl) hL6
         (try dsimp only at t10 t12)
         have h10 := hS.no10 hLi
         have hrow : x.ownsRow B 53 11 v ns.length (ns.flatMap Nd.cs) := row_kept HW.out (fun k hk => hS.kp k hk (fun e => by rw [hLi] at e; cases e) (fun e => by rw [h10] at e; cases e))
         have hb6 := hS.s6 hL6 hLi
         refine go_in (wanted_all rfl) ?_
         intro K hk
         refine wp_append_at _ (.tmp 209) (.tmp 211) 22 rfl B 53 t36 _ 11 96 under22 HI36.out.1 HI36.out.2.1 HI36.out.2.2.1 HI36.out.2.2.2 rfl (by decide) v ns.length _ (eval_tmp t10) hrow ⟨g 6, 0, none⟩ 1 1 n'.cs (eval_tmp t12) rfl (fun j u hj => by
          have e : (⟨g 6, 0, none⟩ : Addr).add j = ⟨g 6, j, none⟩ := by simp [Addr.add]; try (intro hq; exact hq.symm)
          rw [e]; exact cell_of hb6 j (by simpa using hj)) (one_cs n') (by unfold maxLen; omega) (by omega) (by have := hS.sz; omega) ?_
         intro v' y hown hgrow hat
         obtain ⟨p, rfl⟩ := sl_own hown (by omega)
         have hown' : y.ownsRow B 53 11 (sl (ns.length + 1) p) (ns.length + 1) ((ns ++ [n']).flatMap Nd.cs) := by rw [List.flatMap_append]; simpa using hown
         have hq := hk.out (updG g 7 p) y (updG_al (by rfl)) (hS.app hL4 hL6 hLi HBV.out hgrow hown' hat)
         dsimp only at hq; rw [updG_eq] at hq; exact hq
        ·intro i hi; simp only [List.mem_cons, List.not_mem_nil, or_false] at hi; rcases hi with rfl | rfl; exact Or.inl (fun g g' h => by simp only [h 7 (by decide)]); exact Or.inr (by kernel_rfl)
        refine' LinAll.cons _ ?_ ?_ ?_
        rotate_left 1
        ·intro g L a x hLi haft hS hK; have t6 := hK.nw haft 0 7 205 rfl (by kernel_rfl); (try dsimp only at t6); refine go_in (wanted_all rfl) ?_; intro K hk; clear haft hK hLi; go_simp; exact hk.out g x (fun _ _ => rfl) (hS.go rfl)
        ·intro i hi; exact Or.inl (fun _ _ _ => rfl)
        refine' LinAll.cons _ ?_ ?_ ?_
        rotate_left 1
        ·intro g L a x hLi haft hS hK; have t14 := hK.nw haft 8 0 213 rfl (by kernel_rfl); (try dsimp only at t14); refine go_in (wanted_all rfl) ?_; intro K hk; clear haft hK hLi; go_simp; exact hk.out g x (fun _ _ => rfl) (hS.go rfl)
        ·intro i hi; exact Or.inl (fun _ _ _ => rfl)
        refine LinAll.cons (fun _ => undef) ?_ ?_ ?_
        ·intro g L a x hLi haft hS hK
         have hL7 := waits haft 7 (by kernel_rfl)
         have t13 := hK.new 7 2 _ 212 _ rfl rfl rfl (by kernel_rfl) hL7
         have t15 := hK.nw haft 9 0 214 rfl (by kernel_rfl)
         (try dsimp only at t13 t15)
         have hh := (hS.kp gB hgU (fun _ e => HNE.out e.symm) (fun e => by rw [hLi] at e; cases e)).trans HHD.out
         have c1 : x.cell? ⟨gB, 0, none⟩ = some v := cell_of hh 0 rfl
         have f1 : x.frozen? ⟨gB, 0, none⟩ = false := by simp [World.frozen?, hh]
         have hnew := hS.store hL7 hLi hgU HNE.out HHD.out
         unfold sl at t13
         refine go_in (wanted_all rfl) ?_
         intro K hk
         clear haft hK hLi hh
         go_simp
         exact hk.out g _ (fun _ _ => rfl) hnew
        ·intro i hi; exact Or.inl (fun _ _ _ => rfl)
        refine LinAll.nil fun g x hS => ?_
        subst ha0
        simp only [Act.put, List.setIfInBounds_toArray, List.set_cons_zero, List.set_cons_succ]
        clear o0 o3
        have HS : Hid _ := hS
        have c1 : x.cell? ⟨gB, 0, none⟩ = some (sl (ns.length + 1) (g 7)) := cell_of (hS.h10 rfl) 0 rfl
        clear hS
        unfold sl at c1
        go_wp2_with fail
        refine bodyPost_ret (v := .tuple #[.int .i64 ((ns.length : Int) + 1), .int .i64 0]) (by simp [results, Tryz.results25, go_sem]) rfl ?_
        exact ⟨rfl, rmk_end HG.out hBU HS.out (by rw [← HNN.out]; exact HLL.out)⟩
   ·have hE : srtOf ns n = (0, 30) := by rw [HSR.out, if_neg hall]
    obtain ⟨rfl, rfl, rfl⟩ := HM.out.of_err hE (by decide)
    clear hE
    have hEr : r0 = false ∨ (r0 = true ∧ ((n.w != n.s) = true ∨ ((n.w != n.s) = false ∧ ((n.p != 0) = true ∨ ((n.p != 0) = false ∧ (n.q != 0) = true))))) := by
     cases r0
     ·exact Or.inl rfl
     ·right
      refine ⟨rfl, ?_⟩
      by_cases h1 : n.w = n.s
      ·by_cases h2 : n.p = 0
       ·by_cases h3 : n.q = 0
        ·exact absurd (by simp [h1, h2, h3]) hall
        ·right; exact ⟨by simp [h1], Or.inr ⟨by simp [h2], by simp [h3]⟩⟩
       ·right; exact ⟨by simp [h1], Or.inl (by simp [h2])⟩
      ·left; simp [h1]
    clear hall HSR
    rcases hEr with rfl | ⟨rfl, q1 | ⟨q1, q2 | ⟨q2, q3⟩⟩⟩
    all_goals
     go_wp2_with fail
     refine (HRT.out _).mono ?_
     rintro e wT ⟨rfl, hbT⟩
     have hBT : Below w.heap.size w wT := hB.trans (hbT.mono hB.size)
     have e1 : wT.cell? ⟨w.heap.size, 1, none⟩ = some (.int .i64 n.s) := bel_cell hbT hb0 k1
     have e5 : wT.cell? ⟨w.heap.size, 5, none⟩ = some (.int .i64 n.p) := bel_cell hbT hb0 k5
     have e6 : wT.cell? ⟨w.heap.size, 6, none⟩ = some (.int .i64 n.q) := bel_cell hbT hb0 k6
     have e7 : wT.cell? ⟨w.heap.size, 7, none⟩ = some (.int .i64 n.w) := bel_cell hbT hb0 k7
     clear hbT
     go_wp2_with fail
     refine bodyPost_ret (v := .tuple #[.int .i64 0, .int .i64 30]) (by simp [results, Tryz.results25, go_sem]) rfl ?_
     exact ⟨rfl, v, HG.out.below hBT, RChg.of hBT, Or.inl rfl⟩
end Go.Proofs.YtejljdbkocnhlaaGreat
