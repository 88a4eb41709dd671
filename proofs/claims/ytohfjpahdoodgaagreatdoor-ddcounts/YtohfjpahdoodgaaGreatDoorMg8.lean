/- Contracts (dd): what is a diagram; whether the table is full. -/
import Derived.Test.YtohfjpahdoodgaaGreatDoorMg7
namespace Go.Proofs.YtohfjpahdoodgaaGreatDoor
open Go.RowKit
set_option linter.unusedSimpArgs false
set_option linter.unusedVariables false

theorem int_eq (d : Nat) (x y : Int) (w : World) : (Op.equalIn (d + 1) 3 (.int .i64 x) (.int .i64 y)).run Tryz.prog w = .ok (x == y) w := by
  simp only [Op.equalIn, Sem.run_bind, run_underlying underInt, Result.andThen_ok]
  rfl
theorem arr_eqd (d : Nat) (a b c e f g : Int) (w : World) : (Op.equalIn (d + 2) 90 (.agg #[.int .i64 a, .int .i64 b, .int .i64 c]) (.agg #[.int .i64 e, .int .i64 f, .int .i64 g])).run Tryz.prog w = .ok (a == e && b == f && c == g) w := by
  obtain ⟨i, hi, -⟩ := info_any infoInt
  rw [run_equalIn_array (P := Tryz.prog) w (d + 1) _ _ underArr hi, show Tryz.prog.cellsOf 3 = 1 by kernel_rfl]
  simp only [List.range_succ, List.range_zero, List.nil_append, List.cons_append, Op.eqItems]
  have p0 : ∀ (x y z : Int) w, (part 3 #[.int .i64 x, .int .i64 y, .int .i64 z] (0 * 1)).run Tryz.prog w = .ok (.int .i64 x) w := fun x y z w => by kernel_rfl
  have p1 : ∀ (x y z : Int) w, (part 3 #[.int .i64 x, .int .i64 y, .int .i64 z] (1 * 1)).run Tryz.prog w = .ok (.int .i64 y) w := fun x y z w => by kernel_rfl
  have p2 : ∀ (x y z : Int) w, (part 3 #[.int .i64 x, .int .i64 y, .int .i64 z] (2 * 1)).run Tryz.prog w = .ok (.int .i64 z) w := fun x y z w => by kernel_rfl
  have p3 := int_eq d
  simp only [Sem.run_bind, p0, p1, p2, p3, Result.andThen_ok]
  by_cases h1 : a = e <;> by_cases h2 : b = f <;> by_cases h3 : c = g <;> simp [h1, h2, h3, p0, p1, p2, p3, Result.andThen]
theorem arr_eq (a b c e f g : Int) (w : World) : (Op.equalIn 10000 90 (.agg #[.int .i64 a, .int .i64 b, .int .i64 c]) (.agg #[.int .i64 e, .int .i64 f, .int .i64 g])).run Tryz.prog w = .ok (a == e && b == f && c == g) w := arr_eqd 9998 a b c e f g w
theorem ne0 (n : T3) : (n.1 == 0 && n.2.1 == 0 && n.2.2 == 0) = decide (n = nd0) := by
  obtain ⟨a, b, c⟩ := n
  unfold nd0
  by_cases h1 : a = 0 <;> by_cases h2 : b = 0 <;> by_cases h3 : c = 0 <;> simp [h1, h2, h3]
theorem neq0 (a b c : Int) (w : World) : (binOp .neq 90 (.agg #[.int .i64 a, .int .i64 b, .int .i64 c]) (.agg #[.int .i64 0, .int .i64 0, .int .i64 0])).run Tryz.prog w = .ok (.bool (!decide ((a, b, c) = nd0))) w := by
  have h := arr_eq a b c 0 0 0 w
  rw [ne0 (a, b, c)] at h
  simp [go_sem, h]
set_option maxHeartbeats 1600000 in
theorem has_any {w : World} {F : Nat → Prop} {g vars most : Nat} {S : St} {pn : Int → Int} (h : Gr w F g vars most S pn) (i : Int) :
    Calls Tryz.prog 30 #[.pointer (some ⟨g, 1, none⟩), .int .i64 i] w fun e w' => e = .returned (.bool (decide (alive S.ns i))) ∧ w' = w := by
  obtain ⟨m, p, v, u, hx, -⟩ := h
  have c2 := hx.c2
  have hl := hx.mg.len
  have hm := hx.mg.mo
  have h2 := hx.mg.good.len
  obtain ⟨r, cap, rfl, -, -, -, hc⟩ := hx.sl
  have HI : Hid (∀ (i : Int) wx, Calls Tryz.prog 38 #[.int .i64 i] wx fun e w' => e = .returned (.bool (decide (1 < i))) ∧ w' = wx) := isNode_any
  have HNE : Hid _ := neq0
  obtain ⟨N, hN⟩ : ∃ N, N = S.ns.length := ⟨_, rfl⟩
  obtain ⟨R, hR⟩ : ∃ R, R = decide (alive S.ns i) := ⟨_, rfl⟩
  rw [← hR]
  have HR : Hid _ := hR
  have HN : Hid _ := hN
  have HC : Hid _ := hc
  rw [← hN] at c2 hl h2
  clear hx hN hR hc
  by_cases h0 : i < 0
  · have e : Hid (R = false) := by unfold Hid; rw [HR.out, decide_eq_false]; intro ha; have := ha.1; omega
    have d0 : decide (0 ≤ i) = false := decide_eq_false (by omega)
    go_enter Tryz.func30, Tryz.ntmps30
    go_wp2_with fail
    go_ret
    exact ⟨by rw [e.out]; rfl, rfl⟩
  · obtain ⟨j, rfl⟩ : ∃ j : Nat, i = (j : Int) := ⟨i.toNat, by omega⟩
    have d0 : decide (0 ≤ (j : Int)) = true := by simp
    by_cases h1 : j < N
    · have hjI : (j : Int) < (N : Int) := by omega
      have d1 : decide ((j : Int) < (N : Int)) = true := decide_eq_true hjI
      by_cases h3 : j ≤ 1
      · have e : Hid (R = true) := by unfold Hid; rw [HR.out, decide_eq_true]; exact ⟨by omega, by rw [← HN.out]; simpa using h1, Or.inl (by omega)⟩
        have d2 : decide (1 < (j : Int)) = false := decide_eq_false (by omega)
        have HI2 : Hid (∀ wx, Calls Tryz.prog 38 #[.int .i64 (j : Int)] wx fun e w' => e = .returned (.bool false) ∧ w' = wx) := fun wx => by rw [← d2]; exact HI.out _ wx
        clear HI d2
        go_enter Tryz.func30, Tryz.ntmps30
        go_wp2_with fail
        refine (HI2.out _).mono ?_
        rintro e w0 ⟨rfl, rfl⟩
        go_wp2_with fail
        go_ret
        exact ⟨by rw [e.out]; rfl, rfl⟩
      · have d2 : decide (1 < (j : Int)) = true := decide_eq_true (by omega)
        have HI2 : Hid (∀ wx, Calls Tryz.prog 38 #[.int .i64 (j : Int)] wx fun e w' => e = .returned (.bool true) ∧ w' = wx) := fun wx => by rw [← d2]; exact HI.out _ wx
        obtain ⟨k0, k1, k2⟩ := HC.out j (by rw [← HN.out]; exact h1)
        obtain ⟨n, hn⟩ : ∃ n, n = at3 S.ns (j : Int) := ⟨_, rfl⟩
        rw [← hn] at k0 k1 k2
        have e : Hid (R = !decide (n = nd0)) := by
          unfold Hid; rw [HR.out, hn]
          by_cases hq : at3 S.ns (j : Int) = nd0
          · rw [decide_eq_false, decide_eq_true hq]
            · rfl
            · intro ha
              rcases ha.2.2 with q | q
              · omega
              · exact q hq
          · rw [decide_eq_true, decide_eq_false hq]
            · rfl
            · exact ⟨by omega, by rw [← HN.out]; simpa using h1, Or.inr hq⟩
        clear hn HI d2
        obtain ⟨n0, n1, n2⟩ := n
        dsimp only at k0 k1 k2
        obtain ⟨Z, hZ⟩ : ∃ Z, Z = decide ((n0, n1, n2) = nd0) := ⟨_, rfl⟩
        have hne := HNE.out n0 n1 n2
        rw [← hZ] at hne e
        clear hZ
        go_enter Tryz.func30, Tryz.ntmps30
        go_wp2_with fail
        refine (HI2.out _).mono ?_
        rintro e' w0 ⟨rfl, rfl⟩
        go_wp2_with fail
        go_ret
        exact ⟨by rw [e.out]; rfl, rfl⟩
    · have e : Hid (R = false) := by unfold Hid; rw [HR.out, decide_eq_false]; intro ha; have := ha.2.1; rw [← HN.out] at this; simp at this; omega
      have d1 : decide ((j : Int) < (N : Int)) = false := decide_eq_false (by omega)
      go_enter Tryz.func30, Tryz.ntmps30
      go_wp2_with fail
      go_ret
      exact ⟨by rw [e.out]; rfl, rfl⟩
theorem tabL_len (ns : List T3) : (tabL ns).length = cntF ns := by
  have key : ∀ (l : List T3) (k : Nat), 2 ≤ k → ((l.mapIdx fun i n => (n, i + k)).filterMap fun x => if x.2 ≤ 1 ∨ x.1 = nd0 then none else some (t3v x.1, Value.int .i64 (x.2 : Int))).length = l.countP (fun n => decide (n ≠ nd0)) := by
    intro l
    induction l with
    | nil => intro k _; rfl
    | cons n l ih =>
      intro k hk
      rw [List.mapIdx_cons, List.filterMap_cons, List.countP_cons]
      have e : (fun (i : Nat) (n : T3) => (n, i + 1 + k)) = fun i n => (n, i + (k + 1)) := by funext i n; rw [Nat.add_assoc, Nat.add_comm 1 k]
      rw [e]
      by_cases hn : n = nd0
      · simp [hn, ih (k + 1) (by omega)]
      · have : ¬ k ≤ 1 := by omega
        simp [hn, this, ih (k + 1) (by omega)]
  unfold tabL cntF
  match ns with
  | [] => rfl
  | [a] => simp
  | a :: b :: l =>
    have := key l 2 (Nat.le_refl _)
    simp only [List.mapIdx_cons, List.filterMap_cons, Nat.zero_add, Nat.zero_le, true_or, if_true, Nat.le_refl]
    simpa using this
theorem Nm.obj {w : World} {m : Nat} {ns : List T3} (h : Nm w m ns) : ∃ es cl, w.heap[m]? = some (.map es cl) ∧ es.size = cntF ns := by
  obtain ⟨L, ⟨es, cl, h1, h2, _⟩, h3⟩ := h.ex
  refine ⟨es, cl, h1, ?_⟩
  rw [← tabL_len, ← h3.length_eq, ← h2]; simp
set_option maxRecDepth 20000 in
set_option maxHeartbeats 1600000 in
theorem full_any {w : World} {F : Nat → Prop} {g vars most : Nat} {S : St} {pn : Int → Int} (h : Gr w F g vars most S pn) :
    Calls Tryz.prog 54 #[.pointer (some ⟨g, 1, none⟩)] w fun e w' => e = .returned (.bool (decide (cntF S.ns = most))) ∧ ∃ n, w' = w.drewN n := by
  obtain ⟨m, p, v, u, hx, -⟩ := h
  have c1 := hx.c1
  have c3 := hx.c3
  have hl := hx.mg.len
  have hm := hx.mg.mo
  have hs := hx.mg.sum
  obtain ⟨es, cl, ho, hz⟩ := hx.nums.obj
  have hu : Tryz.prog.underlying 68 = some (.map (Tryz.prog.mapKeyOf 68) (Tryz.prog.mapElemOf 68)) := by kernel_rfl
  have hlen : ∀ n ty, (Builtin.len_ #[68] ty #[.map (some m)]).run Tryz.prog (w.drewN n) = .ok (.int .i64 (es.size : Int)) (w.drewN n) := fun n ty => run_len_map (w := w.drewN n) 68 ty m es cl hu (by simpa using ho)
  rw [hz] at hlen
  have e : ((cntF S.ns : Int) == (most : Int)) = decide (cntF S.ns = most) := by
    by_cases q : cntF S.ns = most
    · simp [q]
    · simp [q]; omega
  obtain ⟨Z, hZ⟩ : ∃ Z, Z = cntF S.ns := ⟨_, rfl⟩
  obtain ⟨R, hR⟩ : ∃ R, R = decide (cntF S.ns = most) := ⟨_, rfl⟩
  rw [← hR] at e ⊢
  rw [← hZ] at e hlen
  have hb : Z ≤ 20000 := by omega
  clear hx ho hz hR hs hl hu hZ
  go_enter Tryz.func54, Tryz.ntmps54
  go_wp2_with fail
  go_quiet (fail)
  go_wp2_with fail
  go_ret
  exact ⟨rfl, _, rfl⟩
end Go.Proofs.YtohfjpahdoodgaaGreatDoor

/- Contracts (dd): a question's first variable; its halves. -/
namespace Go.Proofs.YtohfjpahdoodgaaGreatDoor
open Go.RowKit
set_option linter.unusedSimpArgs false
set_option linter.unusedVariables false

theorem idx0 (a b c : Int) (w : World) : (Instr.index 66 (.agg #[.int .i64 a, .int .i64 b, .int .i64 c]) (.int .i64 0)).run Tryz.prog w = .ok (.int .i64 a) w := by kernel_rfl
theorem idx1 (a b c : Int) (w : World) : (Instr.index 66 (.agg #[.int .i64 a, .int .i64 b, .int .i64 c]) (.int .i64 1)).run Tryz.prog w = .ok (.int .i64 b) w := by kernel_rfl
theorem idx2 (a b c : Int) (w : World) : (Instr.index 66 (.agg #[.int .i64 a, .int .i64 b, .int .i64 c]) (.int .i64 2)).run Tryz.prog w = .ok (.int .i64 c) w := by kernel_rfl
/-- An entry of a question: -1, or a diagram. -/
def Ent (ns : List T3) (e : Int) : Prop := e = -1 ∨ ∃ j : Nat, e = (j : Int) ∧ j < ns.length
def topK (vars : Nat) (ns : List T3) (q : T3) : Nat → Int
  | 0 => vars
  | 1 => min (vars : Int) (varOf vars ns q.1)
  | 2 => min (min (vars : Int) (varOf vars ns q.1)) (varOf vars ns q.2.1)
  | _ => topF vars ns q
theorem topK_le (vars : Nat) (ns : List T3) (q : T3) (k : Nat) : topK vars ns q k ≤ vars := by
  unfold topK topF; split <;> omega
theorem varOf_no {vars : Nat} {ns : List T3} : varOf vars ns (-1) = vars := by unfold varOf; rw [if_pos rfl]
theorem varOf_at {vars : Nat} {ns : List T3} (j : Nat) : varOf vars ns (j : Int) = (at3 ns (j : Int)).1 := by unfold varOf; rw [if_neg (by omega)]
set_option maxRecDepth 20000 in
set_option maxHeartbeats 6400000 in
theorem top_any {w : World} {F : Nat → Prop} {g vars most rb : Nat} {S : St} {pn : Int → Int} (h : Gr w F g vars most S pn) (hr : w.cell? ⟨rb, 0, none⟩ = some (.pointer (some ⟨g, 0, none⟩))) {q : T3} (e0 : Ent S.ns q.1) (e1 : Ent S.ns q.2.1) (e2 : Ent S.ns q.2.2) :
    Calls Tryz.prog 58 #[.pointer (some ⟨rb, 0, none⟩), t3v q] w fun e w' => e = .returned (.int .i64 (topF vars S.ns q)) ∧ Below w.heap.size w w' := by
  obtain ⟨m, p, v, u, hx, -⟩ := h
  have c0 := hx.c0
  have c2 := hx.c2
  have hl := hx.mg.len
  have hm := hx.mg.mo
  have hv := hx.mg.vr
  have hg := hx.lt
  have hrb := World.block_lt_of_cell? _ _ hr
  obtain ⟨r, cap, rfl, hrl, -, -, hc⟩ := hx.sl
  have HC : Hid _ := hc
  have HT : Hid (∀ k, topK vars S.ns q k ≤ vars) := topK_le vars S.ns q
  obtain ⟨N, hN⟩ : ∃ N, N = S.ns.length := ⟨_, rfl⟩
  have HN : Hid _ := hN
  rw [← hN] at c2 hl
  clear hx hc hN
  obtain ⟨q0, q1, q2⟩ := q
  dsimp only at e0 e1 e2
  have HE0 : Hid _ := e0
  have HE1 : Hid _ := e1
  have HE2 : Hid _ := e2
  have HS0 : Hid (topK vars S.ns (q0, q1, q2) 1 = min (topK vars S.ns (q0, q1, q2) 0) (varOf vars S.ns q0)) := rfl
  have HS1 : Hid (topK vars S.ns (q0, q1, q2) 2 = min (topK vars S.ns (q0, q1, q2) 1) (varOf vars S.ns q1)) := rfl
  have HS2 : Hid (topK vars S.ns (q0, q1, q2) 3 = min (topK vars S.ns (q0, q1, q2) 2) (varOf vars S.ns q2)) := rfl
  have HF : Hid (topF vars S.ns (q0, q1, q2) = topK vars S.ns (q0, q1, q2) 3) := rfl
  have HZ : Hid ((vars : Int) = topK vars S.ns (q0, q1, q2) 0) := rfl
  rw [HF.out]
  obtain ⟨K, hK⟩ : ∃ K, K = topK vars S.ns (q0, q1, q2) := ⟨_, rfl⟩
  rw [← hK] at HT HS0 HS1 HS2 HF HZ ⊢
  clear hK e0 e1 e2
  unfold t3v
  dsimp only
  go_enter Tryz.func58, Tryz.ntmps58
  go_wp2_with fail
  go_loopw [16, 5] (fun i t wr => ∃ (k : Nat) (T : Int), k ≤ 3 ∧ i = .int .i64 (k : Int) ∧ t = .int .i64 T ∧ Hid (T = K k) ∧ wr = w.alloc (.cells #[.int .i64 q0, .int .i64 q1, .int .i64 q2] 66)) (fun i t wr => 3 - (intOf i).toNat)
  case atStart => exact ⟨0, vars, by omega, rfl, rfl, HZ.out, rfl⟩
  case round =>
    obtain ⟨k, T, hk, rfl, rfl, hT, rfl⟩ := hrel
    obtain rfl | rfl | rfl | rfl : k = 0 ∨ k = 1 ∨ k = 2 ∨ k = 3 := by omega
    · have b0 : (((0 : Nat) : Int)) < 3 := by decide
      have hx := idx0 q0 q1 q2
      rcases HE0.out with he | ⟨j, he, hj⟩
      · subst he
        have HX : Hid (T = K 1) := by
          unfold Hid
          have h1 := HS0.out
          have h2 := HT.out 0
          rw [varOf_no] at h1
          rw [hT.out]; omega
        go_wp2_with fail
        exact ⟨⟨1, T, by omega, by go_num, rfl, HX.out, trivial⟩, by simp [intOf]⟩
      · subst he
        obtain ⟨k0, k1, k2⟩ := HC.out j hj
        rw [← HN.out] at hj
        have hjI : (j : Int) < (N : Int) := by omega
        have hd : ((j : Int) == -1) = false := by simp
        obtain ⟨V, hV⟩ : ∃ V, V = (at3 S.ns (j : Int)).1 := ⟨_, rfl⟩
        rw [← hV] at k0
        have HX : Hid (min T V = K 1) := by
          unfold Hid
          have h1 := HS0.out
          rw [varOf_at, ← hV] at h1
          rw [h1, hT.out]
        clear k1 k2 hV
        go_wp2_with fail
        exact ⟨⟨1, min T V, by omega, by go_num, rfl, HX.out, trivial⟩, by simp [intOf]⟩
    · have b0 : (((1 : Nat) : Int)) < 3 := by decide
      have hx := idx1 q0 q1 q2
      rcases HE1.out with he | ⟨j, he, hj⟩
      · subst he
        have HX : Hid (T = K 2) := by
          unfold Hid
          have h1 := HS1.out
          have h2 := HT.out 1
          rw [varOf_no] at h1
          rw [hT.out]; omega
        go_wp2_with fail
        exact ⟨⟨2, T, by omega, by go_num, rfl, HX.out, trivial⟩, by simp [intOf]⟩
      · subst he
        obtain ⟨k0, k1, k2⟩ := HC.out j hj
        rw [← HN.out] at hj
        have hjI : (j : Int) < (N : Int) := by omega
        have hd : ((j : Int) == -1) = false := by simp
        obtain ⟨V, hV⟩ : ∃ V, V = (at3 S.ns (j : Int)).1 := ⟨_, rfl⟩
        rw [← hV] at k0
        have HX : Hid (min T V = K 2) := by
          unfold Hid
          have h1 := HS1.out
          rw [varOf_at, ← hV] at h1
          rw [h1, hT.out]
        clear k1 k2 hV
        go_wp2_with fail
        exact ⟨⟨2, min T V, by omega, by go_num, rfl, HX.out, trivial⟩, by simp [intOf]⟩
    · have b0 : (((2 : Nat) : Int)) < 3 := by decide
      have hx := idx2 q0 q1 q2
      rcases HE2.out with he | ⟨j, he, hj⟩
      · subst he
        have HX : Hid (T = K 3) := by
          unfold Hid
          have h1 := HS2.out
          have h2 := HT.out 2
          rw [varOf_no] at h1
          rw [hT.out]; omega
        go_wp2_with fail
        exact ⟨⟨3, T, by omega, by go_num, rfl, HX.out, trivial⟩, by simp [intOf]⟩
      · subst he
        obtain ⟨k0, k1, k2⟩ := HC.out j hj
        rw [← HN.out] at hj
        have hjI : (j : Int) < (N : Int) := by omega
        have hd : ((j : Int) == -1) = false := by simp
        obtain ⟨V, hV⟩ : ∃ V, V = (at3 S.ns (j : Int)).1 := ⟨_, rfl⟩
        rw [← hV] at k0
        have HX : Hid (min T V = K 3) := by
          unfold Hid
          have h1 := HS2.out
          rw [varOf_at, ← hV] at h1
          rw [h1, hT.out]
        clear k1 k2 hV
        go_wp2_with fail
        exact ⟨⟨3, min T V, by omega, by go_num, rfl, HX.out, trivial⟩, by simp [intOf]⟩
    · have b0 : ¬ (((3 : Nat) : Int)) < 3 := by decide
      go_wp2_with fail
      go_ret
      exact ⟨by rw [hT.out]; rfl, by go_grown⟩
end Go.Proofs.YtohfjpahdoodgaaGreatDoor
