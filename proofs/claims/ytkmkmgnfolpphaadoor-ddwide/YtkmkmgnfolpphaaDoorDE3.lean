/- Contracts (dd): what is a diagram; whether the table is full. -/
import Derived.Test.YtkmkmgnfolpphaaDoorDE2
namespace Go.Proofs.YtkmkmgnfolpphaaDoor
open Go.RowKit
set_option linter.unusedSimpArgs false
set_option linter.unusedVariables false

theorem int_eq (d : Nat) (x y : Int) (w : World) : (Op.equalIn (d + 1) 3 (.int .i64 x) (.int .i64 y)).run Tryd.prog w = .ok (x == y) w := by
  simp only [Op.equalIn, Sem.run_bind, run_underlying underInt, Result.andThen_ok]
  rfl
theorem arr_eqd (d : Nat) (a b c e f g : Int) (w : World) : (Op.equalIn (d + 2) 80 (.agg #[.int .i64 a, .int .i64 b, .int .i64 c]) (.agg #[.int .i64 e, .int .i64 f, .int .i64 g])).run Tryd.prog w = .ok (a == e && b == f && c == g) w := by
  obtain ⟨i, hi, -⟩ := info_any infoInt
  rw [run_equalIn_array (P := Tryd.prog) w (d + 1) _ _ underArr hi, show Tryd.prog.cellsOf 3 = 1 by kernel_rfl]
  simp only [List.range_succ, List.range_zero, List.nil_append, List.cons_append, Op.eqItems]
  have p0 : ∀ (x y z : Int) w, (part 3 #[.int .i64 x, .int .i64 y, .int .i64 z] (0 * 1)).run Tryd.prog w = .ok (.int .i64 x) w := fun x y z w => by kernel_rfl
  have p1 : ∀ (x y z : Int) w, (part 3 #[.int .i64 x, .int .i64 y, .int .i64 z] (1 * 1)).run Tryd.prog w = .ok (.int .i64 y) w := fun x y z w => by kernel_rfl
  have p2 : ∀ (x y z : Int) w, (part 3 #[.int .i64 x, .int .i64 y, .int .i64 z] (2 * 1)).run Tryd.prog w = .ok (.int .i64 z) w := fun x y z w => by kernel_rfl
  have p3 := int_eq d
  simp only [Sem.run_bind, p0, p1, p2, p3, Result.andThen_ok]
  by_cases h1 : a = e <;> by_cases h2 : b = f <;> by_cases h3 : c = g <;> simp [h1, h2, h3, p0, p1, p2, p3, Result.andThen]
theorem arr_eq (a b c e f g : Int) (w : World) : (Op.equalIn 10000 80 (.agg #[.int .i64 a, .int .i64 b, .int .i64 c]) (.agg #[.int .i64 e, .int .i64 f, .int .i64 g])).run Tryd.prog w = .ok (a == e && b == f && c == g) w := arr_eqd 9998 a b c e f g w
theorem ne0 (n : T3) : (n.1 == 0 && n.2.1 == 0 && n.2.2 == 0) = decide (n = nd0) := by
  obtain ⟨a, b, c⟩ := n
  unfold nd0
  by_cases h1 : a = 0 <;> by_cases h2 : b = 0 <;> by_cases h3 : c = 0 <;> simp [h1, h2, h3]
theorem neq0 (a b c : Int) (w : World) : (binOp .neq 80 (.agg #[.int .i64 a, .int .i64 b, .int .i64 c]) (.agg #[.int .i64 0, .int .i64 0, .int .i64 0])).run Tryd.prog w = .ok (.bool (!decide ((a, b, c) = nd0))) w := by
  have h := arr_eq a b c 0 0 0 w
  rw [ne0 (a, b, c)] at h
  simp [go_sem, h]
set_option maxHeartbeats 1600000 in
theorem has_any {w : World} {F : Nat → Prop} {g vars most : Nat} {S : St} {pn : Int → Int} (h : Gr w F g vars most S pn) (i : Int) :
    Calls Tryd.prog 38 #[.pointer (some ⟨g, 1, none⟩), .int .i64 i] w fun e w' => e = .returned (.bool (decide (alive S.ns i))) ∧ w' = w := by
  obtain ⟨m, p, v, u, hx, -⟩ := h
  have c2 := hx.c2
  have hl := hx.mg.len
  have hm := hx.mg.mo
  have h2 := hx.mg.good.len
  obtain ⟨r, cap, rfl, -, -, -, hc⟩ := hx.sl
  have HI : Hid (∀ (i : Int) wx, Calls Tryd.prog 39 #[.int .i64 i] wx fun e w' => e = .returned (.bool (decide (1 < i))) ∧ w' = wx) := isNode_any
  have HNE : Hid _ := neq0
  obtain ⟨N, hN⟩ : ∃ N, N = S.ns.length := ⟨_, rfl⟩
  obtain ⟨R, hR⟩ : ∃ R, R = decide (alive S.ns i) := ⟨_, rfl⟩
  rw [← hR]
  have HR : Hid _ := hR
  have HN : Hid _ := hN
  have HC : Hid _ := hc
  rw [← hN] at c2 hl h2
  clear hx hN hR hc
  by_cases h0 : i < 0
  · have e : Hid (R = false) := by unfold Hid; rw [HR.out, decide_eq_false]; intro ha; have := ha.1; omega
    have d0 : decide (0 ≤ i) = false := decide_eq_false (by omega)
    go_enter Tryd.func38, Tryd.ntmps38
    go_wp2_with fail
    go_ret
    exact ⟨by rw [e.out]; rfl, rfl⟩
  · obtain ⟨j, rfl⟩ : ∃ j : Nat, i = (j : Int) := ⟨i.toNat, by omega⟩
    have d0 : decide (0 ≤ (j : Int)) = true := by simp
    by_cases h1 : j < N
    · have hjI : (j : Int) < (N : Int) := by omega
      have d1 : decide ((j : Int) < (N : Int)) = true := decide_eq_true hjI
      by_cases h3 : j ≤ 1
      · have e : Hid (R = true) := by unfold Hid; rw [HR.out, decide_eq_true]; exact ⟨by omega, by rw [← HN.out]; simpa using h1, Or.inl (by omega)⟩
        have d2 : decide (1 < (j : Int)) = false := decide_eq_false (by omega)
        have HI2 : Hid (∀ wx, Calls Tryd.prog 39 #[.int .i64 (j : Int)] wx fun e w' => e = .returned (.bool false) ∧ w' = wx) := fun wx => by rw [← d2]; exact HI.out _ wx
        clear HI d2
        go_enter Tryd.func38, Tryd.ntmps38
        go_wp2_with fail
        refine (HI2.out _).mono ?_
        rintro e w0 ⟨rfl, rfl⟩
        go_wp2_with fail
        go_ret
        exact ⟨by rw [e.out]; rfl, rfl⟩
      · have d2 : decide (1 < (j : Int)) = true := decide_eq_true (by omega)
        have HI2 : Hid (∀ wx, Calls Tryd.prog 39 #[.int .i64 (j : Int)] wx fun e w' => e = .returned (.bool true) ∧ w' = wx) := fun wx => by rw [← d2]; exact HI.out _ wx
        obtain ⟨k0, k1, k2⟩ := HC.out j (by rw [← HN.out]; exact h1)
        obtain ⟨n, hn⟩ : ∃ n, n = at3 S.ns (j : Int) := ⟨_, rfl⟩
        rw [← hn] at k0 k1 k2
        have e : Hid (R = !decide (n = nd0)) := by
          unfold Hid; rw [HR.out, hn]
          by_cases hq : at3 S.ns (j : Int) = nd0
          · rw [decide_eq_false, decide_eq_true hq]
            · rfl
            · intro ha
              rcases ha.2.2 with q | q
              · omega
              · exact q hq
          · rw [decide_eq_true, decide_eq_false hq]
            · rfl
            · exact ⟨by omega, by rw [← HN.out]; simpa using h1, Or.inr hq⟩
        clear hn HI d2
        obtain ⟨n0, n1, n2⟩ := n
        dsimp only at k0 k1 k2
        obtain ⟨Z, hZ⟩ : ∃ Z, Z = decide ((n0, n1, n2) = nd0) := ⟨_, rfl⟩
        have hne := HNE.out n0 n1 n2
        rw [← hZ] at hne e
        clear hZ
        go_enter Tryd.func38, Tryd.ntmps38
        go_wp2_with fail
        refine (HI2.out _).mono ?_
        rintro e' w0 ⟨rfl, rfl⟩
        go_wp2_with fail
        go_ret
        exact ⟨by rw [e.out]; rfl, rfl⟩
    · have e : Hid (R = false) := by unfold Hid; rw [HR.out, decide_eq_false]; intro ha; have := ha.2.1; rw [← HN.out] at this; simp at this; omega
      have d1 : decide ((j : Int) < (N : Int)) = false := decide_eq_false (by omega)
      go_enter Tryd.func38, Tryd.ntmps38
      go_wp2_with fail
      go_ret
      exact ⟨by rw [e.out]; rfl, rfl⟩
theorem tabL_len (ns : List T3) : (tabL ns).length = cntF ns := by
  have key : ∀ (l : List T3) (k : Nat), 2 ≤ k → ((l.mapIdx fun i n => (n, i + k)).filterMap fun x => if x.2 ≤ 1 ∨ x.1 = nd0 then none else some (t3v x.1, Value.int .i64 (x.2 : Int))).length = l.countP (fun n => decide (n ≠ nd0)) := by
    intro l
    induction l with
    | nil => intro k _; rfl
    | cons n l ih =>
      intro k hk
      rw [List.mapIdx_cons, List.filterMap_cons, List.countP_cons]
      have e : (fun (i : Nat) (n : T3) => (n, i + 1 + k)) = fun i n => (n, i + (k + 1)) := by funext i n; rw [Nat.add_assoc, Nat.add_comm 1 k]
      rw [e]
      by_cases hn : n = nd0
      · simp [hn, ih (k + 1) (by omega)]
      · have : ¬ k ≤ 1 := by omega
        simp [hn, this, ih (k + 1) (by omega)]
  unfold tabL cntF
  match ns with
  | [] => rfl
  | [a] => simp
  | a :: b :: l =>
    have := key l 2 (Nat.le_refl _)
    simp only [List.mapIdx_cons, List.filterMap_cons, Nat.zero_add, Nat.zero_le, true_or, if_true, Nat.le_refl]
    simpa using this
theorem Nm.obj {w : World} {m : Nat} {ns : List T3} (h : Nm w m ns) : ∃ es cl, w.heap[m]? = some (.map es cl) ∧ es.size = cntF ns := by
  obtain ⟨L, ⟨es, cl, h1, h2, _⟩, h3⟩ := h.ex
  refine ⟨es, cl, h1, ?_⟩
  rw [← tabL_len, ← h3.length_eq, ← h2]; simp
set_option maxRecDepth 20000 in
set_option maxHeartbeats 1600000 in
theorem full_any {w : World} {F : Nat → Prop} {g vars most : Nat} {S : St} {pn : Int → Int} (h : Gr w F g vars most S pn) :
    Calls Tryd.prog 58 #[.pointer (some ⟨g, 1, none⟩)] w fun e w' => e = .returned (.bool (decide (cntF S.ns = most))) ∧ ∃ n, w' = w.drewN n := by
  obtain ⟨m, p, v, u, hx, -⟩ := h
  have c1 := hx.c1
  have c3 := hx.c3
  have hl := hx.mg.len
  have hm := hx.mg.mo
  have hs := hx.mg.sum
  obtain ⟨es, cl, ho, hz⟩ := hx.nums.obj
  have hu : Tryd.prog.underlying 73 = some (.map (Tryd.prog.mapKeyOf 73) (Tryd.prog.mapElemOf 73)) := by kernel_rfl
  have hlen : ∀ n ty, (Builtin.len_ #[73] ty #[.map (some m)]).run Tryd.prog (w.drewN n) = .ok (.int .i64 (es.size : Int)) (w.drewN n) := fun n ty => run_len_map (w := w.drewN n) 73 ty m es cl hu (by simpa using ho)
  rw [hz] at hlen
  have e : ((cntF S.ns : Int) == (most : Int)) = decide (cntF S.ns = most) := by
    by_cases q : cntF S.ns = most
    · simp [q]
    · simp [q]; omega
  obtain ⟨Z, hZ⟩ : ∃ Z, Z = cntF S.ns := ⟨_, rfl⟩
  obtain ⟨R, hR⟩ : ∃ R, R = decide (cntF S.ns = most) := ⟨_, rfl⟩
  rw [← hR] at e ⊢
  rw [← hZ] at e hlen
  have hb : Z ≤ 20000 := by omega
  clear hx ho hz hR hs hl hu hZ
  go_enter Tryd.func58, Tryd.ntmps58
  go_wp2_with fail
  go_quiet (fail)
  go_wp2_with fail
  go_ret
  exact ⟨rfl, _, rfl⟩
end Go.Proofs.YtkmkmgnfolpphaaDoor
