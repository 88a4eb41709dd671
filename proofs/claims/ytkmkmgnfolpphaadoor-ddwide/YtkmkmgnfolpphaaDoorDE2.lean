/- Contracts (dd): questions. -/
import Derived.Test.YtkmkmgnfolpphaaDoorDE1
import Derived.WalkSmall
import Derived.Lib.MinMax
namespace Go.Proofs.YtkmkmgnfolpphaaDoor
open Go.RowKit
set_option linter.unusedSimpArgs false
set_option linter.unusedVariables false

theorem below_step {w W w1 : World} (h : Below w.heap.size w W) (hb : Below W.heap.size W w1) : Below w.heap.size w w1 := h.trans (hb.mono h.size)
theorem keep_cell {W w1 : World} (hb : Below W.heap.size W w1) {a : Addr} {v : Value} (h : W.cell? a = some v) : w1.cell? a = some v := by
  rw [hb.cell (World.block_lt_of_cell? _ _ h)]; exact h
theorem al_cell {W : World} {a : Addr} {v : Value} {o : Obj} (h : W.cell? a = some v) : (W.alloc o).cell? a = some v := (World.cell?_of_block (heap_alloc_old W o (World.block_lt_of_cell? W a h))).trans h
theorem as_same {W : World} {a : Addr} {u v : Value} {o : Obj} (h : W.cell? a = some u) : ((W.setCell a v).alloc o).cell? a = some v := al_cell (World.cell?_setCell_same _ _ _ h)
theorem as_other {W : World} {a p : Addr} {x v : Value} {o : Obj} (hne : p ≠ a) (h : W.cell? p = some x) : ((W.setCell a v).alloc o).cell? p = some x := al_cell ((World.cell?_setCell_other W a p v (by first | exact hne | exact hne.symm)).trans h)
theorem underArr : Tryd.prog.underlying 80 = some (.array 3 3) := by kernel_rfl
theorem underInt : Tryd.prog.underlying 3 = some (.int .i64) := by kernel_rfl
theorem isNode_any (i : Int) (w : World) :
    Calls Tryd.prog 39 #[.int .i64 i] w fun e w' => e = .returned (.bool (decide (1 < i))) ∧ w' = w := by
  go_enter Tryd.func39, Tryd.ntmps39
  go_wp2_with fail
  go_ret
  exact ⟨rfl, rfl⟩
theorem exc_any (f h : Int) (w : World) :
    Calls Tryd.prog 89 #[.int .i64 f, .int .i64 h] w fun e w' => e = .returned (t3v (excF f h)) ∧ Below w.heap.size w w' := by
  by_cases h1 : f = h
  · have e : excF f h = (0, 0, 0) := by unfold excF; rw [if_pos h1]
    rw [e]
    subst h1
    go_enter Tryd.func89, Tryd.ntmps89
    go_wp2_with fail
    refine bodyPost_ret (v := t3v (0, 0, 0)) (by simp [results, Tryd.results89, go_sem, t3v]) rfl ?_
    exact ⟨rfl, by go_grown⟩
  · have hd : (f == h) = false := by simp [h1]
    by_cases h2 : f = 1
    · have e : excF f h = (h, 0, 1) := by unfold excF; rw [if_neg h1, if_pos h2]
      rw [e]
      subst h2
      go_enter Tryd.func89, Tryd.ntmps89
      go_wp2_with fail
      refine bodyPost_ret (v := t3v (h, 0, 1)) (by simp [results, Tryd.results89, go_sem, t3v]) rfl ?_
      exact ⟨rfl, by go_grown⟩
    · have hd2 : (f == 1) = false := by simp [h2]
      have e : excF f h = (f, -1, h) := by unfold excF; rw [if_neg h1, if_neg h2]
      rw [e]
      go_enter Tryd.func89, Tryd.ntmps89
      go_wp2_with fail
      refine bodyPost_ret (v := t3v (f, -1, h)) (by simp [results, Tryd.results89, go_sem, t3v]) rfl ?_
      exact ⟨rfl, by go_grown⟩
theorem kn_any (q : T3) (w : World) :
    Calls Tryd.prog 75 #[t3v q] w fun e w' => e = .returned (.tuple #[.int .i64 ((knownF q).getD 0), .bool (knownF q).isSome]) ∧ Below w.heap.size w w' := by
  obtain ⟨f, g, h⟩ := q
  unfold t3v
  dsimp only
  by_cases h1 : f = 0
  · have e : knownF (f, g, h) = some h := by unfold knownF; rw [if_pos (Or.inl h1)]
    rw [e]
    subst h1
    go_enter Tryd.func75, Tryd.ntmps75
    go_wp2_with fail
    refine bodyPost_ret (v := .tuple #[.int .i64 h, .bool true]) (by simp [results, Tryd.results75, go_sem]) rfl ?_
    exact ⟨rfl, by go_grown⟩
  · have hd1 : (f == 0) = false := by simp [h1]
    by_cases h2 : g = h
    · have e : knownF (f, g, h) = some h := by unfold knownF; rw [if_pos (Or.inr h2)]
      rw [e]
      subst h2
      go_enter Tryd.func75, Tryd.ntmps75
      go_wp2_with fail
      refine bodyPost_ret (v := .tuple #[.int .i64 g, .bool true]) (by simp [results, Tryd.results75, go_sem]) rfl ?_
      exact ⟨rfl, by go_grown⟩
    · have hd2 : (g == h) = false := by simp [h2]
      by_cases h3 : f = 1
      · have e : knownF (f, g, h) = some g := by unfold knownF; rw [if_neg (by simp [h1, h2]), if_pos h3]
        rw [e]
        subst h3
        go_enter Tryd.func75, Tryd.ntmps75
        go_wp2_with fail
        refine bodyPost_ret (v := .tuple #[.int .i64 g, .bool true]) (by simp [results, Tryd.results75, go_sem]) rfl ?_
        exact ⟨rfl, by go_grown⟩
      · have hd3 : (f == 1) = false := by simp [h3]
        have e : knownF (f, g, h) = none := by unfold knownF; rw [if_neg (by simp [h1, h2]), if_neg h3]
        rw [e]
        go_enter Tryd.func75, Tryd.ntmps75
        go_wp2_with fail
        refine bodyPost_ret (v := .tuple #[.int .i64 0, .bool false]) (by simp [results, Tryd.results75, go_sem]) rfl ?_
        exact ⟨rfl, by go_grown⟩
theorem plain_exc (f h : Int) (w : World) :
    Calls Tryd.prog 74 #[t3v (f, -1, h)] w fun e w' => e = .returned (t3v (excF (min f h) (max f h))) ∧ Below w.heap.size w w' := by
  obtain ⟨R, hR⟩ : ∃ R, R = excF (min f h) (max f h) := ⟨_, rfl⟩
  have HE : Hid (∀ wx, Calls Tryd.prog 89 #[.int .i64 (min f h), .int .i64 (max f h)] wx fun e w' => e = .returned (t3v R) ∧ Below wx.heap.size wx w') := fun wx => by rw [hR]; exact exc_any _ _ wx
  rw [← hR]
  clear hR
  obtain ⟨r1, r2, r3⟩ := R
  unfold t3v at HE ⊢
  dsimp only at HE ⊢
  go_enter Tryd.func74, Tryd.ntmps74
  go_wp2_with fail
  go_quiet (fail)
  go_wp2_with fail
  refine (HE.out _).mono ?_
  rintro e w1 ⟨rfl, hb⟩
  have hB : Below w.heap.size w w1 := Below.trans (below_drewN (by go_grown) _) (hb.mono (by simp; omega))
  have k0 : w1.cell? ⟨w.heap.size + 1, 0, none⟩ = some (.int .i64 0) := keep_cell hb (by simp)
  have k1 : w1.cell? ⟨w.heap.size + 1, 1, none⟩ = some (.int .i64 0) := keep_cell hb (by simp)
  have k2 : w1.cell? ⟨w.heap.size + 1, 2, none⟩ = some (.int .i64 0) := keep_cell hb (by simp)
  have kf : ∀ j, w1.frozen? ⟨w.heap.size + 1, j, none⟩ = false := fun j => (hb.frozen (p := ⟨w.heap.size + 1, j, none⟩) (by simp)).trans (by simp)
  have hs : w.heap.size + 1 < w1.heap.size := by have := hb.size; simp at this; omega
  clear hb
  go_wp2_with fail
  refine bodyPost_ret (v := t3v (r1, r2, r3)) (by simp [results, Tryd.results74, go_sem, t3v, k0, k1, k2]) rfl ?_
  exact ⟨rfl, by go_grown⟩
set_option maxHeartbeats 1600000 in
theorem plain_rest (f g h : Int) (hg : g ≠ -1) (w : World) :
    Calls Tryd.prog 74 #[t3v (f, g, h)] w fun e w' => e = .returned (t3v (plainG f (if f = g then 1 else g) (if f = h then 0 else h))) ∧ Below w.heap.size w w' := by
  have hg0 : (g == -1) = false := by simp [hg]
  obtain ⟨R, hR⟩ : ∃ R, R = plainG f (if f = g then 1 else g) (if f = h then 0 else h) := ⟨_, rfl⟩
  rw [← hR]
  have HR : Hid _ := hR
  clear hR hg
  unfold t3v
  dsimp only
  have fin : ∀ a b c : Int, R = (a, b, c) → Ending.returned (.agg #[.int .i64 a, .int .i64 b, .int .i64 c]) = Ending.returned (.agg #[.int .i64 R.1, .int .i64 R.2.1, .int .i64 R.2.2]) := fun a b c e => by rw [e]
  have FIN : Hid _ := fin
  clear fin
  by_cases h1 : f = g <;> by_cases h2 : f = h
  · subst h1; subst h2
    have e : Hid (R = (min f 1, max f 1, 0)) := by unfold Hid; rw [HR.out]; simp [plainG]
    go_enter Tryd.func74, Tryd.ntmps74
    go_wp2_with fail
    go_quiet (fail)
    go_wp2_with fail
    refine bodyPost_ret (v := t3v (min f 1, max f 1, 0)) (by simp [results, Tryd.results74, go_sem, t3v]) rfl ?_
    exact ⟨FIN.out _ _ _ e.out, by go_grown; exact below_drewN (by go_grown) _⟩
  · subst h1
    have hd2 : (f == h) = false := by simp [h2]
    by_cases h3 : h = 0
    · subst h3
      have e : Hid (R = (min f 1, max f 1, 0)) := by unfold Hid; rw [HR.out]; simp [plainG]
      clear h2
      go_enter Tryd.func74, Tryd.ntmps74
      go_wp2_with fail
      go_quiet (fail)
      go_wp2_with fail
      refine bodyPost_ret (v := t3v (min f 1, max f 1, 0)) (by simp [results, Tryd.results74, go_sem, t3v]) rfl ?_
      exact ⟨FIN.out _ _ _ e.out, by go_grown; exact below_drewN (by go_grown) _⟩
    · have hd3 : (h == 0) = false := by simp [h3]
      have e : Hid (R = (min f h, 1, max f h)) := by unfold Hid; rw [HR.out]; simp [plainG, h2, h3]
      clear h2 h3
      go_enter Tryd.func74, Tryd.ntmps74
      go_wp2_with fail
      go_quiet (fail)
      go_wp2_with fail
      refine bodyPost_ret (v := t3v (min f h, 1, max f h)) (by simp [results, Tryd.results74, go_sem, t3v]) rfl ?_
      exact ⟨FIN.out _ _ _ e.out, by go_grown; exact below_drewN (by go_grown) _⟩
  · subst h2
    have hd1 : (f == g) = false := by simp [h1]
    have e : Hid (R = (min f g, max f g, 0)) := by unfold Hid; rw [HR.out]; simp [plainG, h1]
    clear h1
    go_enter Tryd.func74, Tryd.ntmps74
    go_wp2_with fail
    go_quiet (fail)
    go_wp2_with fail
    refine bodyPost_ret (v := t3v (min f g, max f g, 0)) (by simp [results, Tryd.results74, go_sem, t3v]) rfl ?_
    exact ⟨FIN.out _ _ _ e.out, by go_grown; exact below_drewN (by go_grown) _⟩
  · have hd1 : (f == g) = false := by simp [h1]
    have hd2 : (f == h) = false := by simp [h2]
    by_cases h3 : h = 0
    · subst h3
      have e : Hid (R = (min f g, max f g, 0)) := by unfold Hid; rw [HR.out]; simp [plainG, h1]
      clear h1 h2
      go_enter Tryd.func74, Tryd.ntmps74
      go_wp2_with fail
      go_quiet (fail)
      go_wp2_with fail
      refine bodyPost_ret (v := t3v (min f g, max f g, 0)) (by simp [results, Tryd.results74, go_sem, t3v]) rfl ?_
      exact ⟨FIN.out _ _ _ e.out, by go_grown; exact below_drewN (by go_grown) _⟩
    · have hd3 : (h == 0) = false := by simp [h3]
      by_cases h4 : g = 1
      · subst h4
        have e : Hid (R = (min f h, 1, max f h)) := by unfold Hid; rw [HR.out]; simp [plainG, h1, h2, h3]
        clear h1 h2 h3
        go_enter Tryd.func74, Tryd.ntmps74
        go_wp2_with fail
        go_quiet (fail)
        go_wp2_with fail
        refine bodyPost_ret (v := t3v (min f h, 1, max f h)) (by simp [results, Tryd.results74, go_sem, t3v]) rfl ?_
        exact ⟨FIN.out _ _ _ e.out, by go_grown; exact below_drewN (by go_grown) _⟩
      · have hd4 : (g == 1) = false := by simp [h4]
        have e : Hid (R = (f, g, h)) := by unfold Hid; rw [HR.out]; simp [plainG, h1, h2, h3, h4]
        clear h1 h2 h3 h4
        go_enter Tryd.func74, Tryd.ntmps74
        go_wp2_with fail
        go_quiet (fail)
        go_wp2_with fail
        refine bodyPost_ret (v := t3v (f, g, h)) (by simp [results, Tryd.results74, go_sem, t3v]) rfl ?_
        exact ⟨FIN.out _ _ _ e.out, by go_grown; exact below_drewN (by go_grown) _⟩
theorem plain_any (q : T3) (w : World) :
    Calls Tryd.prog 74 #[t3v q] w fun e w' => e = .returned (t3v (plainF q)) ∧ Below w.heap.size w w' := by
  obtain ⟨f, g, h⟩ := q
  by_cases hg : g = -1
  · subst hg
    rw [show plainF (f, -1, h) = excF (min f h) (max f h) by unfold plainF; rw [if_pos rfl]]
    exact plain_exc f h w
  · rw [show plainF (f, g, h) = plainG f (if f = g then 1 else g) (if f = h then 0 else h) by unfold plainF; rw [if_neg hg]]
    exact plain_rest f g h hg w
end Go.Proofs.YtkmkmgnfolpphaaDoor
