/- Contracts (the document's graph): a node whose parts stand wrong is refused. -/
import Derived.Test.YtjmbicaacplolaaZ5
import Derived.Test.YtjmbicaacplolaaX13
namespace Go.Proofs.Ytjmbicaacplolaa
open Go.RowKit
set_option linter.unusedSimpArgs false
set_option linter.unusedVariables false

theorem zB_of {N : Nat} {n : Nd} {K : Nat} (hp : prt N n = false) (hK3 : K ≤ 3) (hKa : ari n.op = (K : Int)) (hz : n.op = 1 ∨ zB n.w n.lo n.hi = true) (hn : n.op = 2 ∨ n.nm.size = 0) : ¬ ∀ q : Nat, q < 3 → opB N (K : Int) (q : Int) (opn n q) = true := by
  intro h
  have ha := h 0 (by omega)
  have hb := h 1 (by omega)
  have hc := h 2 (by omega)
  have : prt N n = true := by
    rw [prt_eq hKa]
    simp only [Bool.and_eq_true, Bool.or_eq_true, decide_eq_true_eq, beq_iff_eq]
    exact ⟨⟨⟨⟨⟨by omega, ha⟩, hb⟩, hc⟩, hz⟩, hn⟩
  rw [this] at hp
  cases hp
set_option maxRecDepth 20000 in
set_option maxHeartbeats 3200000 in
/-- The operator is none. -/
theorem rbad_op {w : World} {gB : Nat} {n : Nd} (h : ari n.op < 0) :
    Calls Try.prog 13 #[.pointer (some ⟨gB, 0, none⟩), .agg #[.int .i64 n.op, .int .i64 n.s, .int .i64 n.a, .int .i64 n.b, .int .i64 n.c, .int .i64 n.p, .int .i64 n.q, .int .i64 n.w, .int .u64 n.lo, .int .u64 n.hi, .string n.nm]] w fun e w' => e = .returned (.tuple #[.int .i64 0, .int .i64 32]) ∧ Below w.heap.size w w' := by
  obtain ⟨k, hk⟩ : ∃ k, k = ari n.op := ⟨_, rfl⟩
  have HA : Hid (∀ wx, Calls Try.prog 27 #[.int .i64 n.op] wx fun e w' => e = .returned (.int .i64 k) ∧ w' = wx) := fun wx => by rw [hk]; exact refarity_any _ wx
  rw [← hk] at h
  clear hk
  go_enter Try.func13, Try.ntmps13
  go_wp2_with fail
  refine (HA.out _).mono ?_
  rintro e wz ⟨rfl, hw⟩
  rw [hw]
  clear hw wz
  go_wp2_with fail
  refine bodyPost_ret (v := .tuple #[.int .i64 0, .int .i64 32]) (by simp [results, Try.results13, go_sem]) rfl ?_
  exact ⟨rfl, by go_grown⟩
set_option maxRecDepth 20000 in
set_option maxHeartbeats 3200000 in
/-- A value stands where none may. -/
theorem rbad_v {w : World} {gB K : Nat} {n : Nd} (hKa : ari n.op = (K : Int)) (h1 : ¬ n.op = 1) (hz : zB n.w n.lo n.hi = false) :
    Calls Try.prog 13 #[.pointer (some ⟨gB, 0, none⟩), .agg #[.int .i64 n.op, .int .i64 n.s, .int .i64 n.a, .int .i64 n.b, .int .i64 n.c, .int .i64 n.p, .int .i64 n.q, .int .i64 n.w, .int .u64 n.lo, .int .u64 n.hi, .string n.nm]] w fun e w' => e = .returned (.tuple #[.int .i64 0, .int .i64 32]) ∧ Below w.heap.size w w' := by
  have HA : Hid (∀ wx, Calls Try.prog 27 #[.int .i64 n.op] wx fun e w' => e = .returned (.int .i64 (K : Int)) ∧ w' = wx) := fun wx => by rw [← hKa]; exact refarity_any _ wx
  have yA : (n.op != 1) = true := by simp [h1]
  have hnz : ∀ wx, (binOp .neq 34 (.agg #[.int .i64 n.w, .int .u64 n.lo, .int .u64 n.hi]) (.agg #[.int .i64 0, .int .u64 0, .int .u64 0])).run Try.prog wx = .ok (.bool true) wx := fun wx => by rw [neqz, hz]; rfl
  have hK0 : ¬ (K : Int) < 0 := by omega
  clear hKa h1 hz
  go_enter Try.func13, Try.ntmps13
  go_wp2_with fail
  refine (HA.out _).mono ?_
  rintro e wz ⟨rfl, hw⟩
  rw [hw]
  clear hw wz
  go_wp2_with fail
  refine bodyPost_ret (v := .tuple #[.int .i64 0, .int .i64 32]) (by simp [results, Try.results13, go_sem]) rfl ?_
  exact ⟨rfl, by go_grown⟩
set_option maxRecDepth 20000 in
set_option maxHeartbeats 6400000 in
/-- A name stands where none may. -/
theorem rbad_n {w : World} {gB K : Nat} {n : Nd} (hKa : ari n.op = (K : Int)) (hz : n.op = 1 ∨ zB n.w n.lo n.hi = true) (h2 : ¬ n.op = 2) (hn : ¬ n.nm.size = 0) :
    Calls Try.prog 13 #[.pointer (some ⟨gB, 0, none⟩), .agg #[.int .i64 n.op, .int .i64 n.s, .int .i64 n.a, .int .i64 n.b, .int .i64 n.c, .int .i64 n.p, .int .i64 n.q, .int .i64 n.w, .int .u64 n.lo, .int .u64 n.hi, .string n.nm]] w fun e w' => e = .returned (.tuple #[.int .i64 0, .int .i64 32]) ∧ Below w.heap.size w w' := by
  have HA : Hid (∀ wx, Calls Try.prog 27 #[.int .i64 n.op] wx fun e w' => e = .returned (.int .i64 (K : Int)) ∧ w' = wx) := fun wx => by rw [← hKa]; exact refarity_any _ wx
  have yC : (n.op != 2) = true := by simp [h2]
  have hn0 := str_not hn
  have hn1 : (n.nm.toList == []) = false := by simp [hn0]
  have hn2 : n.nm.toList.isEmpty = false := by simp [hn0]
  have hn3 : (n.nm.toList != []) = true := by simp [hn0]
  have hK0 : ¬ (K : Int) < 0 := by omega
  clear hKa h2 hn
  by_cases h1 : n.op = 1
  · have yA : (n.op != 1) = false := by simp [h1]
    clear h1 hz
    go_enter Try.func13, Try.ntmps13
    go_wp2_with fail
    refine (HA.out _).mono ?_
    rintro e wz ⟨rfl, hw⟩
    rw [hw]
    clear hw wz
    go_wp2_with fail
    refine bodyPost_ret (v := .tuple #[.int .i64 0, .int .i64 32]) (by simp [results, Try.results13, go_sem]) rfl ?_
    exact ⟨rfl, by go_grown⟩
  · have hz' := hz.resolve_left h1
    have yA : (n.op != 1) = true := by simp [h1]
    have hnz : ∀ wx, (binOp .neq 34 (.agg #[.int .i64 n.w, .int .u64 n.lo, .int .u64 n.hi]) (.agg #[.int .i64 0, .int .u64 0, .int .u64 0])).run Try.prog wx = .ok (.bool false) wx := fun wx => by rw [neqz, hz']; rfl
    clear h1 hz hz'
    go_enter Try.func13, Try.ntmps13
    go_wp2_with fail
    refine (HA.out _).mono ?_
    rintro e wz ⟨rfl, hw⟩
    rw [hw]
    clear hw wz
    go_wp2_with fail
    refine bodyPost_ret (v := .tuple #[.int .i64 0, .int .i64 32]) (by simp [results, Try.results13, go_sem]) rfl ?_
    exact ⟨rfl, by go_grown⟩

set_option maxRecDepth 20000 in
set_option maxHeartbeats 12800000 in
/-- An operand stands wrong (a constant). -/
theorem rbad_1 {w : World} {B gB mo K : Nat} {v : Value} {ns : List Nd} {n : Nd} (h : Rg w B gB v mo ns) (hop : n.op = 1) (hK3 : K ≤ 3) (hKa : ari n.op = (K : Int)) (hz : n.op = 1 ∨ zB n.w n.lo n.hi = true) (hpn : n.op = 2 ∨ n.nm.size = 0) (hq : ¬ ∀ q : Nat, q < 3 → opB ns.length (K : Int) (q : Int) (opn n q) = true) :
    Calls Try.prog 13 #[.pointer (some ⟨gB, 0, none⟩), .agg #[.int .i64 n.op, .int .i64 n.s, .int .i64 n.a, .int .i64 n.b, .int .i64 n.c, .int .i64 n.p, .int .i64 n.q, .int .i64 n.w, .int .u64 n.lo, .int .u64 n.hi, .string n.nm]] w fun e w' => e = .returned (.tuple #[.int .i64 0, .int .i64 32]) ∧ Below w.heap.size w w' := by
  have hlen := h.len
  have HG : Hid _ := h
  have yA : (n.op != 1) = false := by simp [hop]
  have yC : (n.op != 2) = true := by simp [hop]
  have hnm := hpn.resolve_left (by omega)
  have hn0 := str_nil hnm
  have hn1 : (n.nm.toList == []) = true := by simp [hn0]
  have hn2 : n.nm.toList.isEmpty = true := by simp [hn0]
  have hn3 : (n.nm.toList != []) = false := by simp [hn0]
  have HA : Hid (∀ wx, Calls Try.prog 27 #[.int .i64 n.op] wx fun e w' => e = .returned (.int .i64 (K : Int)) ∧ w' = wx) := fun wx => by rw [← hKa]; exact refarity_any _ wx
  have HKQ : Hid _ := hq
  have hK0 : ¬ (K : Int) < 0 := by omega
  obtain ⟨t0, ht0, hz0, hz1, hz2⟩ := info_parts info3
  have HI0 : Hid (Try.prog.info? 3 = some t0 ∧ t0.zero = some (.int .i64 0) ∧ t0.size = 1 ∧ t0.bytes = 8) := ⟨ht0, hz0, hz1, hz2⟩
  have HB0 : Hid _ := Bx.made w n
  clear h hKa hq ht0 hz0 hz1 hz2 hop hz hpn hnm
  go_enter Try.func13, Try.ntmps13
  go_wp2_with fail
  refine (HA.out _).mono ?_
  rintro e wz ⟨rfl, hw⟩
  rw [hw]
  clear hw wz
  go_wp2_with fail
  go_loopw [8, 9] (fun v8 i wr => ∃ j : Nat, ∃ l : List Int, j ≤ 3 ∧ i = .int .i64 (j : Int) ∧ l.length ≤ j ∧ (∀ q : Nat, q < j → opB ns.length (K : Int) (q : Int) (opn n q) = true) ∧ Is' wr (w.heap.size + 2) v8 l ∧ Bx w wr n) (fun v8 i wr => 3 - (intOf i).toNat)
  case atStart => exact ⟨0, [], Nat.zero_le _, rfl, by simp, (fun q hq => by omega), World.ownsRow_nil _ _ _ _, HB0.out⟩
  case round =>
    clear HB0
    obtain ⟨j, l, hj, rfl, hlj, hsofar, hIs, hBx⟩ := hrel
    have HIS : Hid _ := hIs
    have HBX : Hid _ := hBx
    have HSF : Hid _ := hsofar
    have hsz := hBx.size
    have hB := hBx.bel
    clear hIs hBx hsofar
    by_cases hj3 : j < 3
    · have hj3' : (j : Int) < 3 := by omega
      have ck := HBX.out.kid j hj3
      have HGR : Hid _ := HG.out.below hB
      obtain ⟨q, hq⟩ : ∃ q, q = opn n j := ⟨_, rfl⟩
      rw [← hq] at ck
      have HMORE : Hid (opB ns.length (K : Int) (j : Int) q = true → ∀ p : Nat, p < j + 1 → opB ns.length (K : Int) (p : Int) (opn n p) = true) := fun h p hp => by
        by_cases e : p = j
        · subst e; rw [← hq]; exact h
        · exact HSF.out p (by omega)
      clear hq
      by_cases hjK : j < K
      · have x1 : (j : Int) < (K : Int) := by omega
        have x2 : ¬ (K : Int) ≤ (j : Int) := by omega
        cases hhb : hasB ns.length q
        · have HAT : Hid _ := at_no HGR.out hhb
          clear hhb
          go_wp2_with fail
          refine Calls.mono HAT.out ?_
          rintro e w5 ⟨rfl, hb5⟩
          have hB5 : Below w.heap.size w w5 := hB.trans (hb5.mono hB.size)
          clear hb5
          go_wp2_with fail
          refine bodyPost_ret (v := .tuple #[.int .i64 0, .int .i64 32]) (by simp [results, Try.results13, go_sem]) rfl ?_
          exact ⟨rfl, hB5.alloc hB5.size _⟩
        · obtain ⟨i, m, hi, rfl⟩ := has_node hhb
          have HAT : Hid _ := at_yes HGR.out hi
          have HM1 : Hid _ := HMORE.out (by rw [opB, if_pos x1]; exact hhb)
          clear hi hhb HMORE
          go_wp2_with fail
          refine Calls.mono HAT.out ?_
          rintro e w5 ⟨rfl, hb5⟩
          have HB5 : Hid _ := HBX.out.below hb5
          have HI5 : Hid (Is' w5 (w.heap.size + 2) u8 l) := row_kept HIS.out hb5.block
          have hsz5 : w.heap.size + 2 ≤ w5.heap.size := HB5.out.size
          have ck5 : w5.cell? ⟨w.heap.size + 1, j, none⟩ = some (.int .i64 ((i : Int) + 1)) := bel_cell hb5 (by omega) ck
          have hk5 : w.heap.size + 1 < w5.heap.size := by omega
          clear hb5 HIS HBX HAT ck
          go_wp2_with (at_builtin; refine wpList_append_own_at _ rfl _ _ 45 rfl (w.heap.size + 2) 3 t0 (.int .i64 0) 1 8 under45 HI0.out.1 HI0.out.2.1 HI0.out.2.2.1 HI0.out.2.2.2 rfl (by decide) _ _ _ rfl (row_kept (row_kept HI5.out (fun _ hq => heap_alloc_old _ _ hq)) (fun _ hq => heap_alloc_old _ _ hq)) _ 1 1 [.int .i64 m.s] rfl rfl (by intro j u hj; match j, hj with | 0, hj => simp at hj; subst hj; simp [Addr.add]) (ones [m.s]) (by unfold maxLen; omega) (by omega) (by rw [size_alloc', size_alloc']; omega) ?_; intro v1 w1 hown hgrow hnil hat)
          have hb1 : Below (w.heap.size + 2) w5 w1 := low_grown ((Below.refl _ _).alloc hsz5 _) (by rw [size_alloc']; omega) hgrow (fun q hq => (HI5.out.lt q hq).1)
          have HB1 : Hid _ := HB5.out.low hb1
          have HI1 : Hid (Is' w1 (w.heap.size + 2) v1 (l ++ [m.s])) := by
            unfold Hid Is'
            rw [List.map_append, List.length_append]
            exact hown
          clear hown hgrow hnil hat HI5 HB5 hb1
          go_wp2_with fail
          exact ⟨⟨j + 1, l ++ [m.s], by omega, by go_num, by simp; omega, HM1.out, HI1.out, HB1.out⟩, by simp [intOf]; omega⟩
      · have x1 : ¬ (j : Int) < (K : Int) := by omega
        have x2 : (K : Int) ≤ (j : Int) := by omega
        by_cases hq0 : q = 0
        · subst hq0
          have HAT : Hid _ := at_no HGR.out (i := 0) (by simp [hasB])
          have HM1 : Hid _ := HMORE.out (by rw [opB, if_neg x1]; rfl)
          clear HMORE
          go_wp2_with fail
          refine Calls.mono HAT.out ?_
          rintro e w5 ⟨rfl, hb5⟩
          have hb6 := hb5.alloc hb5.size (.cells #[.int .i64 0, .int .i64 0, .int .i64 0, .int .i64 0, .int .i64 0, .int .i64 0, .int .i64 0, .int .i64 0, .int .u64 0, .int .u64 0, .string ⟨#[]⟩] 36)
          have HB6 : Hid _ := HBX.out.below hb6
          have HI6 : Hid (Is' _ (w.heap.size + 2) u8 l) := row_kept HIS.out hb6.block
          have ck5 : w5.cell? ⟨w.heap.size + 1, j, none⟩ = some (.int .i64 0) := bel_cell hb5 (by omega) ck
          have hk5 : w.heap.size + 1 < w5.heap.size := by have := hb5.size; omega
          clear hb5 hb6 HIS HBX HAT ck
          go_wp2_with fail
          exact ⟨⟨j + 1, l, by omega, by go_num, by omega, HM1.out, HI6.out, HB6.out⟩, by simp [intOf]; omega⟩
        · have q0 : (q != 0) = true := by simp [hq0]
          cases hhb : hasB ns.length q
          · have HAT : Hid _ := at_no HGR.out hhb
            clear hhb hq0
            go_wp2_with fail
            refine Calls.mono HAT.out ?_
            rintro e w5 ⟨rfl, hb5⟩
            have hB5 : Below w.heap.size w w5 := hB.trans (hb5.mono hB.size)
            have ck5 : w5.cell? ⟨w.heap.size + 1, j, none⟩ = some (.int .i64 q) := bel_cell hb5 (by omega) ck
            have hk5 : w.heap.size + 1 < w5.heap.size := by have := hb5.size; omega
            clear hb5
            go_wp2_with fail
            refine bodyPost_ret (v := .tuple #[.int .i64 0, .int .i64 32]) (by simp [results, Try.results13, go_sem]) rfl ?_
            exact ⟨rfl, hB5.alloc hB5.size _⟩
          · obtain ⟨i, m, hi, rfl⟩ := has_node hhb
            have HAT : Hid _ := at_yes HGR.out hi
            clear hi hhb hq0
            go_wp2_with fail
            refine Calls.mono HAT.out ?_
            rintro e w5 ⟨rfl, hb5⟩
            have hB5 : Below w.heap.size w w5 := hB.trans (hb5.mono hB.size)
            have ck5 : w5.cell? ⟨w.heap.size + 1, j, none⟩ = some (.int .i64 ((i : Int) + 1)) := bel_cell hb5 (by omega) ck
            have hk5 : w.heap.size + 1 < w5.heap.size := by have := hb5.size; omega
            clear hb5
            go_wp2_with fail
            refine bodyPost_ret (v := .tuple #[.int .i64 0, .int .i64 32]) (by simp [results, Try.results13, go_sem]) rfl ?_
            exact ⟨rfl, hB5.alloc hB5.size _⟩
    · obtain rfl : j = 3 := by omega
      exact absurd HSF.out HKQ.out

set_option maxRecDepth 20000 in
set_option maxHeartbeats 12800000 in
/-- An operand stands wrong (a variable). -/
theorem rbad_2 {w : World} {B gB mo K : Nat} {v : Value} {ns : List Nd} {n : Nd} (h : Rg w B gB v mo ns) (hop : n.op = 2) (hK3 : K ≤ 3) (hKa : ari n.op = (K : Int)) (hz : n.op = 1 ∨ zB n.w n.lo n.hi = true) (hpn : n.op = 2 ∨ n.nm.size = 0) (hq : ¬ ∀ q : Nat, q < 3 → opB ns.length (K : Int) (q : Int) (opn n q) = true) :
    Calls Try.prog 13 #[.pointer (some ⟨gB, 0, none⟩), .agg #[.int .i64 n.op, .int .i64 n.s, .int .i64 n.a, .int .i64 n.b, .int .i64 n.c, .int .i64 n.p, .int .i64 n.q, .int .i64 n.w, .int .u64 n.lo, .int .u64 n.hi, .string n.nm]] w fun e w' => e = .returned (.tuple #[.int .i64 0, .int .i64 32]) ∧ Below w.heap.size w w' := by
  have hlen := h.len
  have HG : Hid _ := h
  have yA : (n.op != 1) = true := by simp [hop]
  have yC : (n.op != 2) = false := by simp [hop]
  have hz' := hz.resolve_left (by omega)
  have hnz : ∀ wx, (binOp .neq 34 (.agg #[.int .i64 n.w, .int .u64 n.lo, .int .u64 n.hi]) (.agg #[.int .i64 0, .int .u64 0, .int .u64 0])).run Try.prog wx = .ok (.bool false) wx := fun wx => by rw [neqz, hz']; rfl
  have HA : Hid (∀ wx, Calls Try.prog 27 #[.int .i64 n.op] wx fun e w' => e = .returned (.int .i64 (K : Int)) ∧ w' = wx) := fun wx => by rw [← hKa]; exact refarity_any _ wx
  have HKQ : Hid _ := hq
  have hK0 : ¬ (K : Int) < 0 := by omega
  obtain ⟨t0, ht0, hz0, hz1, hz2⟩ := info_parts info3
  have HI0 : Hid (Try.prog.info? 3 = some t0 ∧ t0.zero = some (.int .i64 0) ∧ t0.size = 1 ∧ t0.bytes = 8) := ⟨ht0, hz0, hz1, hz2⟩
  have HB0 : Hid _ := Bx.made w n
  clear h hKa hq ht0 hz0 hz1 hz2 hop hz hpn hz'
  go_enter Try.func13, Try.ntmps13
  go_wp2_with fail
  refine (HA.out _).mono ?_
  rintro e wz ⟨rfl, hw⟩
  rw [hw]
  clear hw wz
  go_wp2_with fail
  go_loopw [8, 9] (fun v8 i wr => ∃ j : Nat, ∃ l : List Int, j ≤ 3 ∧ i = .int .i64 (j : Int) ∧ l.length ≤ j ∧ (∀ q : Nat, q < j → opB ns.length (K : Int) (q : Int) (opn n q) = true) ∧ Is' wr (w.heap.size + 2) v8 l ∧ Bx w wr n) (fun v8 i wr => 3 - (intOf i).toNat)
  case atStart => exact ⟨0, [], Nat.zero_le _, rfl, by simp, (fun q hq => by omega), World.ownsRow_nil _ _ _ _, HB0.out⟩
  case round =>
    clear HB0
    obtain ⟨j, l, hj, rfl, hlj, hsofar, hIs, hBx⟩ := hrel
    have HIS : Hid _ := hIs
    have HBX : Hid _ := hBx
    have HSF : Hid _ := hsofar
    have hsz := hBx.size
    have hB := hBx.bel
    clear hIs hBx hsofar
    by_cases hj3 : j < 3
    · have hj3' : (j : Int) < 3 := by omega
      have ck := HBX.out.kid j hj3
      have HGR : Hid _ := HG.out.below hB
      obtain ⟨q, hq⟩ : ∃ q, q = opn n j := ⟨_, rfl⟩
      rw [← hq] at ck
      have HMORE : Hid (opB ns.length (K : Int) (j : Int) q = true → ∀ p : Nat, p < j + 1 → opB ns.length (K : Int) (p : Int) (opn n p) = true) := fun h p hp => by
        by_cases e : p = j
        · subst e; rw [← hq]; exact h
        · exact HSF.out p (by omega)
      clear hq
      by_cases hjK : j < K
      · have x1 : (j : Int) < (K : Int) := by omega
        have x2 : ¬ (K : Int) ≤ (j : Int) := by omega
        cases hhb : hasB ns.length q
        · have HAT : Hid _ := at_no HGR.out hhb
          clear hhb
          go_wp2_with fail
          refine Calls.mono HAT.out ?_
          rintro e w5 ⟨rfl, hb5⟩
          have hB5 : Below w.heap.size w w5 := hB.trans (hb5.mono hB.size)
          clear hb5
          go_wp2_with fail
          refine bodyPost_ret (v := .tuple #[.int .i64 0, .int .i64 32]) (by simp [results, Try.results13, go_sem]) rfl ?_
          exact ⟨rfl, hB5.alloc hB5.size _⟩
        · obtain ⟨i, m, hi, rfl⟩ := has_node hhb
          have HAT : Hid _ := at_yes HGR.out hi
          have HM1 : Hid _ := HMORE.out (by rw [opB, if_pos x1]; exact hhb)
          clear hi hhb HMORE
          go_wp2_with fail
          refine Calls.mono HAT.out ?_
          rintro e w5 ⟨rfl, hb5⟩
          have HB5 : Hid _ := HBX.out.below hb5
          have HI5 : Hid (Is' w5 (w.heap.size + 2) u8 l) := row_kept HIS.out hb5.block
          have hsz5 : w.heap.size + 2 ≤ w5.heap.size := HB5.out.size
          have ck5 : w5.cell? ⟨w.heap.size + 1, j, none⟩ = some (.int .i64 ((i : Int) + 1)) := bel_cell hb5 (by omega) ck
          have hk5 : w.heap.size + 1 < w5.heap.size := by omega
          clear hb5 HIS HBX HAT ck
          go_wp2_with (at_builtin; refine wpList_append_own_at _ rfl _ _ 45 rfl (w.heap.size + 2) 3 t0 (.int .i64 0) 1 8 under45 HI0.out.1 HI0.out.2.1 HI0.out.2.2.1 HI0.out.2.2.2 rfl (by decide) _ _ _ rfl (row_kept (row_kept HI5.out (fun _ hq => heap_alloc_old _ _ hq)) (fun _ hq => heap_alloc_old _ _ hq)) _ 1 1 [.int .i64 m.s] rfl rfl (by intro j u hj; match j, hj with | 0, hj => simp at hj; subst hj; simp [Addr.add]) (ones [m.s]) (by unfold maxLen; omega) (by omega) (by rw [size_alloc', size_alloc']; omega) ?_; intro v1 w1 hown hgrow hnil hat)
          have hb1 : Below (w.heap.size + 2) w5 w1 := low_grown ((Below.refl _ _).alloc hsz5 _) (by rw [size_alloc']; omega) hgrow (fun q hq => (HI5.out.lt q hq).1)
          have HB1 : Hid _ := HB5.out.low hb1
          have HI1 : Hid (Is' w1 (w.heap.size + 2) v1 (l ++ [m.s])) := by
            unfold Hid Is'
            rw [List.map_append, List.length_append]
            exact hown
          clear hown hgrow hnil hat HI5 HB5 hb1
          go_wp2_with fail
          exact ⟨⟨j + 1, l ++ [m.s], by omega, by go_num, by simp; omega, HM1.out, HI1.out, HB1.out⟩, by simp [intOf]; omega⟩
      · have x1 : ¬ (j : Int) < (K : Int) := by omega
        have x2 : (K : Int) ≤ (j : Int) := by omega
        by_cases hq0 : q = 0
        · subst hq0
          have HAT : Hid _ := at_no HGR.out (i := 0) (by simp [hasB])
          have HM1 : Hid _ := HMORE.out (by rw [opB, if_neg x1]; rfl)
          clear HMORE
          go_wp2_with fail
          refine Calls.mono HAT.out ?_
          rintro e w5 ⟨rfl, hb5⟩
          have hb6 := hb5.alloc hb5.size (.cells #[.int .i64 0, .int .i64 0, .int .i64 0, .int .i64 0, .int .i64 0, .int .i64 0, .int .i64 0, .int .i64 0, .int .u64 0, .int .u64 0, .string ⟨#[]⟩] 36)
          have HB6 : Hid _ := HBX.out.below hb6
          have HI6 : Hid (Is' _ (w.heap.size + 2) u8 l) := row_kept HIS.out hb6.block
          have ck5 : w5.cell? ⟨w.heap.size + 1, j, none⟩ = some (.int .i64 0) := bel_cell hb5 (by omega) ck
          have hk5 : w.heap.size + 1 < w5.heap.size := by have := hb5.size; omega
          clear hb5 hb6 HIS HBX HAT ck
          go_wp2_with fail
          exact ⟨⟨j + 1, l, by omega, by go_num, by omega, HM1.out, HI6.out, HB6.out⟩, by simp [intOf]; omega⟩
        · have q0 : (q != 0) = true := by simp [hq0]
          cases hhb : hasB ns.length q
          · have HAT : Hid _ := at_no HGR.out hhb
            clear hhb hq0
            go_wp2_with fail
            refine Calls.mono HAT.out ?_
            rintro e w5 ⟨rfl, hb5⟩
            have hB5 : Below w.heap.size w w5 := hB.trans (hb5.mono hB.size)
            have ck5 : w5.cell? ⟨w.heap.size + 1, j, none⟩ = some (.int .i64 q) := bel_cell hb5 (by omega) ck
            have hk5 : w.heap.size + 1 < w5.heap.size := by have := hb5.size; omega
            clear hb5
            go_wp2_with fail
            refine bodyPost_ret (v := .tuple #[.int .i64 0, .int .i64 32]) (by simp [results, Try.results13, go_sem]) rfl ?_
            exact ⟨rfl, hB5.alloc hB5.size _⟩
          · obtain ⟨i, m, hi, rfl⟩ := has_node hhb
            have HAT : Hid _ := at_yes HGR.out hi
            clear hi hhb hq0
            go_wp2_with fail
            refine Calls.mono HAT.out ?_
            rintro e w5 ⟨rfl, hb5⟩
            have hB5 : Below w.heap.size w w5 := hB.trans (hb5.mono hB.size)
            have ck5 : w5.cell? ⟨w.heap.size + 1, j, none⟩ = some (.int .i64 ((i : Int) + 1)) := bel_cell hb5 (by omega) ck
            have hk5 : w.heap.size + 1 < w5.heap.size := by have := hb5.size; omega
            clear hb5
            go_wp2_with fail
            refine bodyPost_ret (v := .tuple #[.int .i64 0, .int .i64 32]) (by simp [results, Try.results13, go_sem]) rfl ?_
            exact ⟨rfl, hB5.alloc hB5.size _⟩
    · obtain rfl : j = 3 := by omega
      exact absurd HSF.out HKQ.out

set_option maxRecDepth 20000 in
set_option maxHeartbeats 12800000 in
/-- An operand stands wrong (an operator). -/
theorem rbad_3 {w : World} {B gB mo K : Nat} {v : Value} {ns : List Nd} {n : Nd} (h : Rg w B gB v mo ns) (hop1 : ¬ n.op = 1) (hop2 : ¬ n.op = 2) (hK3 : K ≤ 3) (hKa : ari n.op = (K : Int)) (hz : n.op = 1 ∨ zB n.w n.lo n.hi = true) (hpn : n.op = 2 ∨ n.nm.size = 0) (hq : ¬ ∀ q : Nat, q < 3 → opB ns.length (K : Int) (q : Int) (opn n q) = true) :
    Calls Try.prog 13 #[.pointer (some ⟨gB, 0, none⟩), .agg #[.int .i64 n.op, .int .i64 n.s, .int .i64 n.a, .int .i64 n.b, .int .i64 n.c, .int .i64 n.p, .int .i64 n.q, .int .i64 n.w, .int .u64 n.lo, .int .u64 n.hi, .string n.nm]] w fun e w' => e = .returned (.tuple #[.int .i64 0, .int .i64 32]) ∧ Below w.heap.size w w' := by
  have hlen := h.len
  have HG : Hid _ := h
  have yA : (n.op != 1) = true := by simp [hop1]
  have yC : (n.op != 2) = true := by simp [hop2]
  have hz' := hz.resolve_left hop1
  have hnz : ∀ wx, (binOp .neq 34 (.agg #[.int .i64 n.w, .int .u64 n.lo, .int .u64 n.hi]) (.agg #[.int .i64 0, .int .u64 0, .int .u64 0])).run Try.prog wx = .ok (.bool false) wx := fun wx => by rw [neqz, hz']; rfl
  have hnm := hpn.resolve_left hop2
  have hn0 := str_nil hnm
  have hn1 : (n.nm.toList == []) = true := by simp [hn0]
  have hn2 : n.nm.toList.isEmpty = true := by simp [hn0]
  have hn3 : (n.nm.toList != []) = false := by simp [hn0]
  have HA : Hid (∀ wx, Calls Try.prog 27 #[.int .i64 n.op] wx fun e w' => e = .returned (.int .i64 (K : Int)) ∧ w' = wx) := fun wx => by rw [← hKa]; exact refarity_any _ wx
  have HKQ : Hid _ := hq
  have hK0 : ¬ (K : Int) < 0 := by omega
  obtain ⟨t0, ht0, hz0, hz1, hz2⟩ := info_parts info3
  have HI0 : Hid (Try.prog.info? 3 = some t0 ∧ t0.zero = some (.int .i64 0) ∧ t0.size = 1 ∧ t0.bytes = 8) := ⟨ht0, hz0, hz1, hz2⟩
  have HB0 : Hid _ := Bx.made w n
  clear h hKa hq ht0 hz0 hz1 hz2 hop1 hop2 hz hpn hz' hnm
  go_enter Try.func13, Try.ntmps13
  go_wp2_with fail
  refine (HA.out _).mono ?_
  rintro e wz ⟨rfl, hw⟩
  rw [hw]
  clear hw wz
  go_wp2_with fail
  go_loopw [8, 9] (fun v8 i wr => ∃ j : Nat, ∃ l : List Int, j ≤ 3 ∧ i = .int .i64 (j : Int) ∧ l.length ≤ j ∧ (∀ q : Nat, q < j → opB ns.length (K : Int) (q : Int) (opn n q) = true) ∧ Is' wr (w.heap.size + 2) v8 l ∧ Bx w wr n) (fun v8 i wr => 3 - (intOf i).toNat)
  case atStart => exact ⟨0, [], Nat.zero_le _, rfl, by simp, (fun q hq => by omega), World.ownsRow_nil _ _ _ _, HB0.out⟩
  case round =>
    clear HB0
    obtain ⟨j, l, hj, rfl, hlj, hsofar, hIs, hBx⟩ := hrel
    have HIS : Hid _ := hIs
    have HBX : Hid _ := hBx
    have HSF : Hid _ := hsofar
    have hsz := hBx.size
    have hB := hBx.bel
    clear hIs hBx hsofar
    by_cases hj3 : j < 3
    · have hj3' : (j : Int) < 3 := by omega
      have ck := HBX.out.kid j hj3
      have HGR : Hid _ := HG.out.below hB
      obtain ⟨q, hq⟩ : ∃ q, q = opn n j := ⟨_, rfl⟩
      rw [← hq] at ck
      have HMORE : Hid (opB ns.length (K : Int) (j : Int) q = true → ∀ p : Nat, p < j + 1 → opB ns.length (K : Int) (p : Int) (opn n p) = true) := fun h p hp => by
        by_cases e : p = j
        · subst e; rw [← hq]; exact h
        · exact HSF.out p (by omega)
      clear hq
      by_cases hjK : j < K
      · have x1 : (j : Int) < (K : Int) := by omega
        have x2 : ¬ (K : Int) ≤ (j : Int) := by omega
        cases hhb : hasB ns.length q
        · have HAT : Hid _ := at_no HGR.out hhb
          clear hhb
          go_wp2_with fail
          refine Calls.mono HAT.out ?_
          rintro e w5 ⟨rfl, hb5⟩
          have hB5 : Below w.heap.size w w5 := hB.trans (hb5.mono hB.size)
          clear hb5
          go_wp2_with fail
          refine bodyPost_ret (v := .tuple #[.int .i64 0, .int .i64 32]) (by simp [results, Try.results13, go_sem]) rfl ?_
          exact ⟨rfl, hB5.alloc hB5.size _⟩
        · obtain ⟨i, m, hi, rfl⟩ := has_node hhb
          have HAT : Hid _ := at_yes HGR.out hi
          have HM1 : Hid _ := HMORE.out (by rw [opB, if_pos x1]; exact hhb)
          clear hi hhb HMORE
          go_wp2_with fail
          refine Calls.mono HAT.out ?_
          rintro e w5 ⟨rfl, hb5⟩
          have HB5 : Hid _ := HBX.out.below hb5
          have HI5 : Hid (Is' w5 (w.heap.size + 2) u8 l) := row_kept HIS.out hb5.block
          have hsz5 : w.heap.size + 2 ≤ w5.heap.size := HB5.out.size
          have ck5 : w5.cell? ⟨w.heap.size + 1, j, none⟩ = some (.int .i64 ((i : Int) + 1)) := bel_cell hb5 (by omega) ck
          have hk5 : w.heap.size + 1 < w5.heap.size := by omega
          clear hb5 HIS HBX HAT ck
          go_wp2_with (at_builtin; refine wpList_append_own_at _ rfl _ _ 45 rfl (w.heap.size + 2) 3 t0 (.int .i64 0) 1 8 under45 HI0.out.1 HI0.out.2.1 HI0.out.2.2.1 HI0.out.2.2.2 rfl (by decide) _ _ _ rfl (row_kept (row_kept HI5.out (fun _ hq => heap_alloc_old _ _ hq)) (fun _ hq => heap_alloc_old _ _ hq)) _ 1 1 [.int .i64 m.s] rfl rfl (by intro j u hj; match j, hj with | 0, hj => simp at hj; subst hj; simp [Addr.add]) (ones [m.s]) (by unfold maxLen; omega) (by omega) (by rw [size_alloc', size_alloc']; omega) ?_; intro v1 w1 hown hgrow hnil hat)
          have hb1 : Below (w.heap.size + 2) w5 w1 := low_grown ((Below.refl _ _).alloc hsz5 _) (by rw [size_alloc']; omega) hgrow (fun q hq => (HI5.out.lt q hq).1)
          have HB1 : Hid _ := HB5.out.low hb1
          have HI1 : Hid (Is' w1 (w.heap.size + 2) v1 (l ++ [m.s])) := by
            unfold Hid Is'
            rw [List.map_append, List.length_append]
            exact hown
          clear hown hgrow hnil hat HI5 HB5 hb1
          go_wp2_with fail
          exact ⟨⟨j + 1, l ++ [m.s], by omega, by go_num, by simp; omega, HM1.out, HI1.out, HB1.out⟩, by simp [intOf]; omega⟩
      · have x1 : ¬ (j : Int) < (K : Int) := by omega
        have x2 : (K : Int) ≤ (j : Int) := by omega
        by_cases hq0 : q = 0
        · subst hq0
          have HAT : Hid _ := at_no HGR.out (i := 0) (by simp [hasB])
          have HM1 : Hid _ := HMORE.out (by rw [opB, if_neg x1]; rfl)
          clear HMORE
          go_wp2_with fail
          refine Calls.mono HAT.out ?_
          rintro e w5 ⟨rfl, hb5⟩
          have hb6 := hb5.alloc hb5.size (.cells #[.int .i64 0, .int .i64 0, .int .i64 0, .int .i64 0, .int .i64 0, .int .i64 0, .int .i64 0, .int .i64 0, .int .u64 0, .int .u64 0, .string ⟨#[]⟩] 36)
          have HB6 : Hid _ := HBX.out.below hb6
          have HI6 : Hid (Is' _ (w.heap.size + 2) u8 l) := row_kept HIS.out hb6.block
          have ck5 : w5.cell? ⟨w.heap.size + 1, j, none⟩ = some (.int .i64 0) := bel_cell hb5 (by omega) ck
          have hk5 : w.heap.size + 1 < w5.heap.size := by have := hb5.size; omega
          clear hb5 hb6 HIS HBX HAT ck
          go_wp2_with fail
          exact ⟨⟨j + 1, l, by omega, by go_num, by omega, HM1.out, HI6.out, HB6.out⟩, by simp [intOf]; omega⟩
        · have q0 : (q != 0) = true := by simp [hq0]
          cases hhb : hasB ns.length q
          · have HAT : Hid _ := at_no HGR.out hhb
            clear hhb hq0
            go_wp2_with fail
            refine Calls.mono HAT.out ?_
            rintro e w5 ⟨rfl, hb5⟩
            have hB5 : Below w.heap.size w w5 := hB.trans (hb5.mono hB.size)
            have ck5 : w5.cell? ⟨w.heap.size + 1, j, none⟩ = some (.int .i64 q) := bel_cell hb5 (by omega) ck
            have hk5 : w.heap.size + 1 < w5.heap.size := by have := hb5.size; omega
            clear hb5
            go_wp2_with fail
            refine bodyPost_ret (v := .tuple #[.int .i64 0, .int .i64 32]) (by simp [results, Try.results13, go_sem]) rfl ?_
            exact ⟨rfl, hB5.alloc hB5.size _⟩
          · obtain ⟨i, m, hi, rfl⟩ := has_node hhb
            have HAT : Hid _ := at_yes HGR.out hi
            clear hi hhb hq0
            go_wp2_with fail
            refine Calls.mono HAT.out ?_
            rintro e w5 ⟨rfl, hb5⟩
            have hB5 : Below w.heap.size w w5 := hB.trans (hb5.mono hB.size)
            have ck5 : w5.cell? ⟨w.heap.size + 1, j, none⟩ = some (.int .i64 ((i : Int) + 1)) := bel_cell hb5 (by omega) ck
            have hk5 : w.heap.size + 1 < w5.heap.size := by have := hb5.size; omega
            clear hb5
            go_wp2_with fail
            refine bodyPost_ret (v := .tuple #[.int .i64 0, .int .i64 32]) (by simp [results, Try.results13, go_sem]) rfl ?_
            exact ⟨rfl, hB5.alloc hB5.size _⟩
    · obtain rfl : j = 3 := by omega
      exact absurd HSF.out HKQ.out

theorem rmk_bad {w : World} {B gB mo : Nat} {v : Value} {ns : List Nd} {n : Nd} (h : Rg w B gB v mo ns) (hp : prt ns.length n = false) :
    Calls Try.prog 13 #[.pointer (some ⟨gB, 0, none⟩), .agg #[.int .i64 n.op, .int .i64 n.s, .int .i64 n.a, .int .i64 n.b, .int .i64 n.c, .int .i64 n.p, .int .i64 n.q, .int .i64 n.w, .int .u64 n.lo, .int .u64 n.hi, .string n.nm]] w fun e w' => e = .returned (.tuple #[.int .i64 0, .int .i64 32]) ∧ Below w.heap.size w w' := by
  by_cases h0 : ari n.op < 0
  · exact rbad_op h0
  · have h3 := ari_le n.op
    obtain ⟨K, hKa⟩ : ∃ K : Nat, ari n.op = (K : Int) := ⟨(ari n.op).toNat, by omega⟩
    have hK3 : K ≤ 3 := by omega
    by_cases hz : n.op = 1 ∨ zB n.w n.lo n.hi = true
    · by_cases hn : n.op = 2 ∨ n.nm.size = 0
      · have hq := zB_of hp hK3 hKa hz hn
        by_cases h1 : n.op = 1
        · exact rbad_1 h h1 hK3 hKa hz hn hq
        · by_cases h2 : n.op = 2
          · exact rbad_2 h h2 hK3 hKa hz hn hq
          · exact rbad_3 h h1 h2 hK3 hKa hz hn hq
      · exact rbad_n hKa hz (fun e => hn (Or.inl e)) (fun e => hn (Or.inr e))
    · exact rbad_v hKa (fun e => hz (Or.inl e)) (by
        cases e : zB n.w n.lo n.hi
        · rfl
        · exact absurd (Or.inr e) hz)
end Go.Proofs.Ytjmbicaacplolaa
