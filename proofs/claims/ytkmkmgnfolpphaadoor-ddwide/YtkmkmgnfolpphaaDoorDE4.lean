/- Contracts (dd): a question's first variable; its halves. -/
import Derived.Test.YtkmkmgnfolpphaaDoorDE3
namespace Go.Proofs.YtkmkmgnfolpphaaDoor
open Go.RowKit
set_option linter.unusedSimpArgs false
set_option linter.unusedVariables false

theorem idx0 (a b c : Int) (w : World) : (Instr.index 98 (.agg #[.int .i64 a, .int .i64 b, .int .i64 c]) (.int .i64 0)).run Tryd.prog w = .ok (.int .i64 a) w := by kernel_rfl
theorem idx1 (a b c : Int) (w : World) : (Instr.index 98 (.agg #[.int .i64 a, .int .i64 b, .int .i64 c]) (.int .i64 1)).run Tryd.prog w = .ok (.int .i64 b) w := by kernel_rfl
theorem idx2 (a b c : Int) (w : World) : (Instr.index 98 (.agg #[.int .i64 a, .int .i64 b, .int .i64 c]) (.int .i64 2)).run Tryd.prog w = .ok (.int .i64 c) w := by kernel_rfl
/-- An entry of a question: -1, or a diagram. -/
def Ent (ns : List T3) (e : Int) : Prop := e = -1 ∨ ∃ j : Nat, e = (j : Int) ∧ j < ns.length
def topK (vars : Nat) (ns : List T3) (q : T3) : Nat → Int
  | 0 => vars
  | 1 => min (vars : Int) (varOf vars ns q.1)
  | 2 => min (min (vars : Int) (varOf vars ns q.1)) (varOf vars ns q.2.1)
  | _ => topF vars ns q
theorem topK_le (vars : Nat) (ns : List T3) (q : T3) (k : Nat) : topK vars ns q k ≤ vars := by
  unfold topK topF; split <;> omega
theorem varOf_no {vars : Nat} {ns : List T3} : varOf vars ns (-1) = vars := by unfold varOf; rw [if_pos rfl]
theorem varOf_at {vars : Nat} {ns : List T3} (j : Nat) : varOf vars ns (j : Int) = (at3 ns (j : Int)).1 := by unfold varOf; rw [if_neg (by omega)]
set_option maxRecDepth 20000 in
set_option maxHeartbeats 6400000 in
theorem top_any {w : World} {F : Nat → Prop} {g vars most rb : Nat} {S : St} {pn : Int → Int} (h : Gr w F g vars most S pn) (hr : w.cell? ⟨rb, 0, none⟩ = some (.pointer (some ⟨g, 0, none⟩))) {q : T3} (e0 : Ent S.ns q.1) (e1 : Ent S.ns q.2.1) (e2 : Ent S.ns q.2.2) :
    Calls Tryd.prog 76 #[.pointer (some ⟨rb, 0, none⟩), t3v q] w fun e w' => e = .returned (.int .i64 (topF vars S.ns q)) ∧ Below w.heap.size w w' := by
  obtain ⟨m, p, v, u, hx, -⟩ := h
  have c0 := hx.c0
  have c2 := hx.c2
  have hl := hx.mg.len
  have hm := hx.mg.mo
  have hv := hx.mg.vr
  have hg := hx.lt
  have hrb := World.block_lt_of_cell? _ _ hr
  obtain ⟨r, cap, rfl, hrl, -, -, hc⟩ := hx.sl
  have HC : Hid _ := hc
  have HT : Hid (∀ k, topK vars S.ns q k ≤ vars) := topK_le vars S.ns q
  obtain ⟨N, hN⟩ : ∃ N, N = S.ns.length := ⟨_, rfl⟩
  have HN : Hid _ := hN
  rw [← hN] at c2 hl
  clear hx hc hN
  obtain ⟨q0, q1, q2⟩ := q
  dsimp only at e0 e1 e2
  have HE0 : Hid _ := e0
  have HE1 : Hid _ := e1
  have HE2 : Hid _ := e2
  have HS0 : Hid (topK vars S.ns (q0, q1, q2) 1 = min (topK vars S.ns (q0, q1, q2) 0) (varOf vars S.ns q0)) := rfl
  have HS1 : Hid (topK vars S.ns (q0, q1, q2) 2 = min (topK vars S.ns (q0, q1, q2) 1) (varOf vars S.ns q1)) := rfl
  have HS2 : Hid (topK vars S.ns (q0, q1, q2) 3 = min (topK vars S.ns (q0, q1, q2) 2) (varOf vars S.ns q2)) := rfl
  have HF : Hid (topF vars S.ns (q0, q1, q2) = topK vars S.ns (q0, q1, q2) 3) := rfl
  have HZ : Hid ((vars : Int) = topK vars S.ns (q0, q1, q2) 0) := rfl
  rw [HF.out]
  obtain ⟨K, hK⟩ : ∃ K, K = topK vars S.ns (q0, q1, q2) := ⟨_, rfl⟩
  rw [← hK] at HT HS0 HS1 HS2 HF HZ ⊢
  clear hK e0 e1 e2
  unfold t3v
  dsimp only
  go_enter Tryd.func76, Tryd.ntmps76
  go_wp2_with fail
  go_loopw [16, 5] (fun i t wr => ∃ (k : Nat) (T : Int), k ≤ 3 ∧ i = .int .i64 (k : Int) ∧ t = .int .i64 T ∧ Hid (T = K k) ∧ wr = w.alloc (.cells #[.int .i64 q0, .int .i64 q1, .int .i64 q2] 98)) (fun i t wr => 3 - (intOf i).toNat)
  case atStart => exact ⟨0, vars, by omega, rfl, rfl, HZ.out, rfl⟩
  case round =>
    obtain ⟨k, T, hk, rfl, rfl, hT, rfl⟩ := hrel
    obtain rfl | rfl | rfl | rfl : k = 0 ∨ k = 1 ∨ k = 2 ∨ k = 3 := by omega
    · have b0 : (((0 : Nat) : Int)) < 3 := by decide
      have hx := idx0 q0 q1 q2
      rcases HE0.out with he | ⟨j, he, hj⟩
      · subst he
        have HX : Hid (T = K 1) := by
          unfold Hid
          have h1 := HS0.out
          have h2 := HT.out 0
          rw [varOf_no] at h1
          rw [hT.out]; omega
        go_wp2_with fail
        exact ⟨⟨1, T, by omega, by go_num, rfl, HX.out, trivial⟩, by simp [intOf]⟩
      · subst he
        obtain ⟨k0, k1, k2⟩ := HC.out j hj
        rw [← HN.out] at hj
        have hjI : (j : Int) < (N : Int) := by omega
        have hd : ((j : Int) == -1) = false := by simp
        obtain ⟨V, hV⟩ : ∃ V, V = (at3 S.ns (j : Int)).1 := ⟨_, rfl⟩
        rw [← hV] at k0
        have HX : Hid (min T V = K 1) := by
          unfold Hid
          have h1 := HS0.out
          rw [varOf_at, ← hV] at h1
          rw [h1, hT.out]
        clear k1 k2 hV
        go_wp2_with fail
        exact ⟨⟨1, min T V, by omega, by go_num, rfl, HX.out, trivial⟩, by simp [intOf]⟩
    · have b0 : (((1 : Nat) : Int)) < 3 := by decide
      have hx := idx1 q0 q1 q2
      rcases HE1.out with he | ⟨j, he, hj⟩
      · subst he
        have HX : Hid (T = K 2) := by
          unfold Hid
          have h1 := HS1.out
          have h2 := HT.out 1
          rw [varOf_no] at h1
          rw [hT.out]; omega
        go_wp2_with fail
        exact ⟨⟨2, T, by omega, by go_num, rfl, HX.out, trivial⟩, by simp [intOf]⟩
      · subst he
        obtain ⟨k0, k1, k2⟩ := HC.out j hj
        rw [← HN.out] at hj
        have hjI : (j : Int) < (N : Int) := by omega
        have hd : ((j : Int) == -1) = false := by simp
        obtain ⟨V, hV⟩ : ∃ V, V = (at3 S.ns (j : Int)).1 := ⟨_, rfl⟩
        rw [← hV] at k0
        have HX : Hid (min T V = K 2) := by
          unfold Hid
          have h1 := HS1.out
          rw [varOf_at, ← hV] at h1
          rw [h1, hT.out]
        clear k1 k2 hV
        go_wp2_with fail
        exact ⟨⟨2, min T V, by omega, by go_num, rfl, HX.out, trivial⟩, by simp [intOf]⟩
    · have b0 : (((2 : Nat) : Int)) < 3 := by decide
      have hx := idx2 q0 q1 q2
      rcases HE2.out with he | ⟨j, he, hj⟩
      · subst he
        have HX : Hid (T = K 3) := by
          unfold Hid
          have h1 := HS2.out
          have h2 := HT.out 2
          rw [varOf_no] at h1
          rw [hT.out]; omega
        go_wp2_with fail
        exact ⟨⟨3, T, by omega, by go_num, rfl, HX.out, trivial⟩, by simp [intOf]⟩
      · subst he
        obtain ⟨k0, k1, k2⟩ := HC.out j hj
        rw [← HN.out] at hj
        have hjI : (j : Int) < (N : Int) := by omega
        have hd : ((j : Int) == -1) = false := by simp
        obtain ⟨V, hV⟩ : ∃ V, V = (at3 S.ns (j : Int)).1 := ⟨_, rfl⟩
        rw [← hV] at k0
        have HX : Hid (min T V = K 3) := by
          unfold Hid
          have h1 := HS2.out
          rw [varOf_at, ← hV] at h1
          rw [h1, hT.out]
        clear k1 k2 hV
        go_wp2_with fail
        exact ⟨⟨3, min T V, by omega, by go_num, rfl, HX.out, trivial⟩, by simp [intOf]⟩
    · have b0 : ¬ (((3 : Nat) : Int)) < 3 := by decide
      go_wp2_with fail
      go_ret
      exact ⟨by rw [hT.out]; rfl, by go_grown⟩
end Go.Proofs.YtkmkmgnfolpphaaDoor
