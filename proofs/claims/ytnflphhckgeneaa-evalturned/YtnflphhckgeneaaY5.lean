/- Contracts (terms): operator, operands, value and name of a node stand where they may. (Made by gen5.py.) -/
import Derived.Test.YtnflphhckgeneaaMg10
namespace Go.Proofs.Ytnflphhckgeneaa
open Go.RowKit
set_option linter.unusedSimpArgs false
set_option linter.unusedVariables false

theorem prt_ari {N : Nat} {n : Nd} (h : ari n.op < 0) : prt N n = false := by simp [prt, show ¬ 0 ≤ ari n.op by omega]
theorem ari_le (op : Int) : ari op ≤ 3 := by unfold ari; repeat' split <;> omega
def zB (a b c : Int) : Bool := decide (a = 0) && decide (b = 0) && decide (c = 0)
theorem neqz (a b c : Int) (w : World) : (binOp .neq 24 (.agg #[.int .i64 a, .int .u64 b, .int .u64 c]) (.agg #[.int .i64 0, .int .u64 0, .int .u64 0])).run Try.prog w = .ok (.bool (!zB a b c)) w := by
  unfold zB
  by_cases h1 : a = 0
  · by_cases h2 : b = 0
    · by_cases h3 : c = 0 <;> simp [go_sem, h1, h2, h3]
    · simp [go_sem, h1, h2]
  · simp [go_sem, h1]

set_option maxHeartbeats 1600000 in
theorem parts_neg {w : World} {g : Nat} {n : Nd} (h : ari n.op < 0) :
    Calls Try.prog 51 #[.pointer (some ⟨g, 0, none⟩), .agg #[.int .i64 n.op, .int .i64 n.s, .int .i64 n.a, .int .i64 n.b, .int .i64 n.c, .int .i64 n.p, .int .i64 n.q, .int .i64 n.w, .int .u64 n.lo, .int .u64 n.hi, .string n.nm]] w fun e w' => e = .returned (.bool false) ∧ Below w.heap.size w w' := by
  obtain ⟨k, hk⟩ : ∃ k, k = ari n.op := ⟨_, rfl⟩
  have HA : Hid (∀ wx, Calls Try.prog 23 #[.int .i64 n.op] wx fun e w' => e = .returned (.int .i64 k) ∧ w' = wx) := fun wx => by rw [hk]; exact arity_any _ wx
  rw [← hk] at h
  clear hk
  go_enter Try.func51, Try.ntmps51
  go_wp2_with fail
  refine (HA.out _).mono ?_
  rintro e wz ⟨rfl, rfl⟩
  go_wp2_with fail
  go_ret
  exact ⟨rfl, by go_grown⟩

theorem loop_len (bs : ByteArray) : ∀ (k i : Nat) (r : List UInt8), bs.size - i = k → (ByteArray.toList.loop bs i r).length = r.length + k
  | 0, i, r, h => by
    unfold ByteArray.toList.loop
    rw [if_neg (by omega)]
    simp
  | k + 1, i, r, h => by
    unfold ByteArray.toList.loop
    rw [if_pos (by omega), loop_len bs k (i + 1) _ (by omega)]
    simp
    omega
theorem emp_eq (b : ByteArray) : b.toList.isEmpty = (b.size == 0) := by
  have h : b.toList.length = b.size := by
    unfold ByteArray.toList
    rw [loop_len b b.size 0 [] (by omega)]
    simp
  cases hl : b.toList with
  | nil => rw [hl] at h; simp at h; simp [← h]
  | cons x l => rw [hl] at h; simp at h; simp [← h]
theorem prt_eq {N : Nat} {n : Nd} {k : Int} (hk : ari n.op = k) : prt N n = (decide (0 ≤ k) && opB N k 0 n.a && opB N k 1 n.b && opB N k 2 n.c && (decide (n.op = 1) || zB n.w n.lo n.hi) && (decide (n.op = 2) || n.nm.size == 0)) := by subst hk; rfl

set_option maxHeartbeats 6400000 in
theorem parts_0 {w : World} {B g mi mv mo : Nat} {v : Value} {ns : List Nd} (h : Gr w B g mi mv v mo ns) {n : Nd} (hk : ari n.op = 0) :
    Calls Try.prog 51 #[.pointer (some ⟨g, 0, none⟩), .agg #[.int .i64 n.op, .int .i64 n.s, .int .i64 n.a, .int .i64 n.b, .int .i64 n.c, .int .i64 n.p, .int .i64 n.q, .int .i64 n.w, .int .u64 n.lo, .int .u64 n.hi, .string n.nm]] w fun e w' => e = .returned (.bool (prt ns.length n)) ∧ Below w.heap.size w w' := by
  have HA : Hid (∀ wx, Calls Try.prog 23 #[.int .i64 n.op] wx fun e w' => e = .returned (.int .i64 0) ∧ w' = wx) := fun wx => by rw [← hk]; exact arity_any _ wx
  have H : Hid (∀ wx (i : Int), Below w.heap.size w wx → Calls Try.prog 58 #[.pointer (some ⟨g, 0, none⟩), .int .i64 i] wx fun e w' => e = .returned (.bool (hasB ns.length i)) ∧ w' = wx) := fun wx i hb => has_any (h.below hb) i
  obtain ⟨r, hr⟩ : ∃ r, r = prt ns.length n := ⟨_, rfl⟩
  rw [← hr]
  rw [prt_eq hk] at hr
  have HR : Hid _ := hr
  clear hr h
  have ho : n.op = 1 ∨ n.op = 2 := by unfold ari at hk; repeat' split at hk <;> omega
  clear hk
  have hnz := neqz
  obtain ⟨N, hN⟩ : ∃ N, N = ns.length := ⟨_, rfl⟩
  rw [← hN] at H HR
  clear hN
  go_enter Try.func51, Try.ntmps51
  go_wp2_with fail
  refine (HA.out _).mono ?_
  rintro e wz ⟨rfl, rfl⟩
  go_wp2_with fail
  refine wp_loop_rounds 1 ?_
  rw [rounds_succ]
  go_wp2_with fail
  refine wp_loop_rounds 4 ?_
  rw [rounds_succ]
  by_cases hb0 : n.a = 0
  rotate_left 1
  · have z0 : (n.a != 0) = true := by simp [hb0]
    go_wp2_with fail
    go_ret
    exact ⟨by rw [HR.out]; simp [opB, hb0], by go_grown⟩
  have z0 : (n.a != 0) = false := by simp [hb0]
  go_wp2_with fail
  rw [rounds_succ]
  by_cases hb1 : n.b = 0
  rotate_left 1
  · have z1 : (n.b != 0) = true := by simp [hb1]
    go_wp2_with fail
    go_ret
    exact ⟨by rw [HR.out]; simp [opB, hb0, hb1], by go_grown⟩
  have z1 : (n.b != 0) = false := by simp [hb1]
  go_wp2_with fail
  rw [rounds_succ]
  by_cases hb2 : n.c = 0
  rotate_left 1
  · have z2 : (n.c != 0) = true := by simp [hb2]
    go_wp2_with fail
    go_ret
    exact ⟨by rw [HR.out]; simp [opB, hb0, hb1, hb2], by go_grown⟩
  have z2 : (n.c != 0) = false := by simp [hb2]
  go_wp2_with fail
  rw [rounds_succ]
  rcases ho with ho | ho
  · skip
    go_wp2_with fail
    go_ret
    exact ⟨by rw [HR.out]; simp [opB, emp_eq, hb0, hb1, hb2, ho], by go_grown⟩
  · skip
    cases hz : zB n.w n.lo n.hi
    · go_wp2_with fail
      go_ret
      exact ⟨by rw [HR.out]; simp [opB, hb0, hb1, hb2, ho, hz], by go_grown⟩
    · skip
      go_wp2_with fail
      go_ret
      exact ⟨by rw [HR.out]; simp [opB, hb0, hb1, hb2, ho, hz], by go_grown⟩

set_option maxHeartbeats 6400000 in
theorem parts_1 {w : World} {B g mi mv mo : Nat} {v : Value} {ns : List Nd} (h : Gr w B g mi mv v mo ns) {n : Nd} (hk : ari n.op = 1) :
    Calls Try.prog 51 #[.pointer (some ⟨g, 0, none⟩), .agg #[.int .i64 n.op, .int .i64 n.s, .int .i64 n.a, .int .i64 n.b, .int .i64 n.c, .int .i64 n.p, .int .i64 n.q, .int .i64 n.w, .int .u64 n.lo, .int .u64 n.hi, .string n.nm]] w fun e w' => e = .returned (.bool (prt ns.length n)) ∧ Below w.heap.size w w' := by
  have HA : Hid (∀ wx, Calls Try.prog 23 #[.int .i64 n.op] wx fun e w' => e = .returned (.int .i64 1) ∧ w' = wx) := fun wx => by rw [← hk]; exact arity_any _ wx
  have H : Hid (∀ wx (i : Int), Below w.heap.size w wx → Calls Try.prog 58 #[.pointer (some ⟨g, 0, none⟩), .int .i64 i] wx fun e w' => e = .returned (.bool (hasB ns.length i)) ∧ w' = wx) := fun wx i hb => has_any (h.below hb) i
  obtain ⟨r, hr⟩ : ∃ r, r = prt ns.length n := ⟨_, rfl⟩
  rw [← hr]
  rw [prt_eq hk] at hr
  have HR : Hid _ := hr
  clear hr h
  have ho1 : ¬ n.op = 1 := fun e => by rw [e] at hk; revert hk; decide
  have ho2 : ¬ n.op = 2 := fun e => by rw [e] at hk; revert hk; decide
  clear hk
  have hnz := neqz
  obtain ⟨N, hN⟩ : ∃ N, N = ns.length := ⟨_, rfl⟩
  rw [← hN] at H HR
  clear hN
  go_enter Try.func51, Try.ntmps51
  go_wp2_with fail
  refine (HA.out _).mono ?_
  rintro e wz ⟨rfl, rfl⟩
  go_wp2_with fail
  refine wp_loop_rounds 2 ?_
  rw [rounds_succ]
  go_wp2_with fail
  refine (H.out _ _ (by go_grown)).mono ?_
  rintro e wz ⟨rfl, rfl⟩
  cases hb0 : hasB N n.a
  · go_wp2_with fail
    go_ret
    exact ⟨by rw [HR.out]; simp [opB, hb0], by go_grown⟩
  · go_wp2_with fail
    rw [rounds_succ]
    go_wp2_with fail
    refine wp_loop_rounds 3 ?_
    rw [rounds_succ]
    by_cases hb1 : n.b = 0
    rotate_left 1
    · have z1 : (n.b != 0) = true := by simp [hb1]
      go_wp2_with fail
      go_ret
      exact ⟨by rw [HR.out]; simp [opB, hb0, hb1], by go_grown⟩
    have z1 : (n.b != 0) = false := by simp [hb1]
    go_wp2_with fail
    rw [rounds_succ]
    by_cases hb2 : n.c = 0
    rotate_left 1
    · have z2 : (n.c != 0) = true := by simp [hb2]
      go_wp2_with fail
      go_ret
      exact ⟨by rw [HR.out]; simp [opB, hb0, hb1, hb2], by go_grown⟩
    have z2 : (n.c != 0) = false := by simp [hb2]
    go_wp2_with fail
    rw [rounds_succ]
    cases hz : zB n.w n.lo n.hi
    · go_wp2_with fail
      go_ret
      exact ⟨by rw [HR.out]; simp [opB, hb0, hb1, hb2, ho1, ho2, hz], by go_grown⟩
    · skip
      go_wp2_with fail
      go_ret
      exact ⟨by rw [HR.out]; simp [opB, emp_eq, hb0, hb1, hb2, ho1, ho2, hz], by go_grown⟩

set_option maxHeartbeats 6400000 in
theorem parts_2 {w : World} {B g mi mv mo : Nat} {v : Value} {ns : List Nd} (h : Gr w B g mi mv v mo ns) {n : Nd} (hk : ari n.op = 2) :
    Calls Try.prog 51 #[.pointer (some ⟨g, 0, none⟩), .agg #[.int .i64 n.op, .int .i64 n.s, .int .i64 n.a, .int .i64 n.b, .int .i64 n.c, .int .i64 n.p, .int .i64 n.q, .int .i64 n.w, .int .u64 n.lo, .int .u64 n.hi, .string n.nm]] w fun e w' => e = .returned (.bool (prt ns.length n)) ∧ Below w.heap.size w w' := by
  have HA : Hid (∀ wx, Calls Try.prog 23 #[.int .i64 n.op] wx fun e w' => e = .returned (.int .i64 2) ∧ w' = wx) := fun wx => by rw [← hk]; exact arity_any _ wx
  have H : Hid (∀ wx (i : Int), Below w.heap.size w wx → Calls Try.prog 58 #[.pointer (some ⟨g, 0, none⟩), .int .i64 i] wx fun e w' => e = .returned (.bool (hasB ns.length i)) ∧ w' = wx) := fun wx i hb => has_any (h.below hb) i
  obtain ⟨r, hr⟩ : ∃ r, r = prt ns.length n := ⟨_, rfl⟩
  rw [← hr]
  rw [prt_eq hk] at hr
  have HR : Hid _ := hr
  clear hr h
  have ho1 : ¬ n.op = 1 := fun e => by rw [e] at hk; revert hk; decide
  have ho2 : ¬ n.op = 2 := fun e => by rw [e] at hk; revert hk; decide
  clear hk
  have hnz := neqz
  obtain ⟨N, hN⟩ : ∃ N, N = ns.length := ⟨_, rfl⟩
  rw [← hN] at H HR
  clear hN
  go_enter Try.func51, Try.ntmps51
  go_wp2_with fail
  refine (HA.out _).mono ?_
  rintro e wz ⟨rfl, rfl⟩
  go_wp2_with fail
  refine wp_loop_rounds 3 ?_
  rw [rounds_succ]
  go_wp2_with fail
  refine (H.out _ _ (by go_grown)).mono ?_
  rintro e wz ⟨rfl, rfl⟩
  cases hb0 : hasB N n.a
  · go_wp2_with fail
    go_ret
    exact ⟨by rw [HR.out]; simp [opB, hb0], by go_grown⟩
  · go_wp2_with fail
    rw [rounds_succ]
    go_wp2_with fail
    refine (H.out _ _ (by go_grown)).mono ?_
    rintro e wz ⟨rfl, rfl⟩
    cases hb1 : hasB N n.b
    · go_wp2_with fail
      go_ret
      exact ⟨by rw [HR.out]; simp [opB, hb0, hb1], by go_grown⟩
    · go_wp2_with fail
      rw [rounds_succ]
      go_wp2_with fail
      refine wp_loop_rounds 2 ?_
      rw [rounds_succ]
      by_cases hb2 : n.c = 0
      rotate_left 1
      · have z2 : (n.c != 0) = true := by simp [hb2]
        go_wp2_with fail
        go_ret
        exact ⟨by rw [HR.out]; simp [opB, hb0, hb1, hb2], by go_grown⟩
      have z2 : (n.c != 0) = false := by simp [hb2]
      go_wp2_with fail
      rw [rounds_succ]
      cases hz : zB n.w n.lo n.hi
      · go_wp2_with fail
        go_ret
        exact ⟨by rw [HR.out]; simp [opB, hb0, hb1, hb2, ho1, ho2, hz], by go_grown⟩
      · skip
        go_wp2_with fail
        go_ret
        exact ⟨by rw [HR.out]; simp [opB, emp_eq, hb0, hb1, hb2, ho1, ho2, hz], by go_grown⟩

set_option maxHeartbeats 6400000 in
theorem parts_3 {w : World} {B g mi mv mo : Nat} {v : Value} {ns : List Nd} (h : Gr w B g mi mv v mo ns) {n : Nd} (hk : ari n.op = 3) :
    Calls Try.prog 51 #[.pointer (some ⟨g, 0, none⟩), .agg #[.int .i64 n.op, .int .i64 n.s, .int .i64 n.a, .int .i64 n.b, .int .i64 n.c, .int .i64 n.p, .int .i64 n.q, .int .i64 n.w, .int .u64 n.lo, .int .u64 n.hi, .string n.nm]] w fun e w' => e = .returned (.bool (prt ns.length n)) ∧ Below w.heap.size w w' := by
  have HA : Hid (∀ wx, Calls Try.prog 23 #[.int .i64 n.op] wx fun e w' => e = .returned (.int .i64 3) ∧ w' = wx) := fun wx => by rw [← hk]; exact arity_any _ wx
  have H : Hid (∀ wx (i : Int), Below w.heap.size w wx → Calls Try.prog 58 #[.pointer (some ⟨g, 0, none⟩), .int .i64 i] wx fun e w' => e = .returned (.bool (hasB ns.length i)) ∧ w' = wx) := fun wx i hb => has_any (h.below hb) i
  obtain ⟨r, hr⟩ : ∃ r, r = prt ns.length n := ⟨_, rfl⟩
  rw [← hr]
  rw [prt_eq hk] at hr
  have HR : Hid _ := hr
  clear hr h
  have ho1 : ¬ n.op = 1 := fun e => by rw [e] at hk; revert hk; decide
  have ho2 : ¬ n.op = 2 := fun e => by rw [e] at hk; revert hk; decide
  clear hk
  have hnz := neqz
  obtain ⟨N, hN⟩ : ∃ N, N = ns.length := ⟨_, rfl⟩
  rw [← hN] at H HR
  clear hN
  go_enter Try.func51, Try.ntmps51
  go_wp2_with fail
  refine (HA.out _).mono ?_
  rintro e wz ⟨rfl, rfl⟩
  go_wp2_with fail
  refine wp_loop_rounds 4 ?_
  rw [rounds_succ]
  go_wp2_with fail
  refine (H.out _ _ (by go_grown)).mono ?_
  rintro e wz ⟨rfl, rfl⟩
  cases hb0 : hasB N n.a
  · go_wp2_with fail
    go_ret
    exact ⟨by rw [HR.out]; simp [opB, hb0], by go_grown⟩
  · go_wp2_with fail
    rw [rounds_succ]
    go_wp2_with fail
    refine (H.out _ _ (by go_grown)).mono ?_
    rintro e wz ⟨rfl, rfl⟩
    cases hb1 : hasB N n.b
    · go_wp2_with fail
      go_ret
      exact ⟨by rw [HR.out]; simp [opB, hb0, hb1], by go_grown⟩
    · go_wp2_with fail
      rw [rounds_succ]
      go_wp2_with fail
      refine (H.out _ _ (by go_grown)).mono ?_
      rintro e wz ⟨rfl, rfl⟩
      cases hb2 : hasB N n.c
      · go_wp2_with fail
        go_ret
        exact ⟨by rw [HR.out]; simp [opB, hb0, hb1, hb2], by go_grown⟩
      · go_wp2_with fail
        rw [rounds_succ]
        go_wp2_with fail
        refine wp_loop_rounds 1 ?_
        rw [rounds_succ]
        cases hz : zB n.w n.lo n.hi
        · go_wp2_with fail
          go_ret
          exact ⟨by rw [HR.out]; simp [opB, hb0, hb1, hb2, ho1, ho2, hz], by go_grown⟩
        · skip
          go_wp2_with fail
          go_ret
          exact ⟨by rw [HR.out]; simp [opB, emp_eq, hb0, hb1, hb2, ho1, ho2, hz], by go_grown⟩

theorem parts_any {w : World} {B g mi mv mo : Nat} {v : Value} {ns : List Nd} (h : Gr w B g mi mv v mo ns) (n : Nd) :
    Calls Try.prog 51 #[.pointer (some ⟨g, 0, none⟩), .agg #[.int .i64 n.op, .int .i64 n.s, .int .i64 n.a, .int .i64 n.b, .int .i64 n.c, .int .i64 n.p, .int .i64 n.q, .int .i64 n.w, .int .u64 n.lo, .int .u64 n.hi, .string n.nm]] w fun e w' => e = .returned (.bool (prt ns.length n)) ∧ Below w.heap.size w w' := by
  by_cases h0 : ari n.op < 0
  · rw [prt_ari h0]
    exact parts_neg h0
  · have h3 := ari_le n.op
    have hx : ari n.op = 0 ∨ ari n.op = 1 ∨ ari n.op = 2 ∨ ari n.op = 3 := by omega
    rcases hx with hx | hx | hx | hx
    · exact parts_0 h hx
    · exact parts_1 h hx
    · exact parts_2 h hx
    · exact parts_3 h hx
end Go.Proofs.Ytnflphhckgeneaa
