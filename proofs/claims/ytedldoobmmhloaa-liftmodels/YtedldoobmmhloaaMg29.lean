import Derived.Test.YtedldoobmmhloaaC
namespace Go.Proofs.Ytedldoobmmhloaa
set_option maxHeartbeats 12800000
set_option maxRecDepth 100000
open Go.RowKit
set_option linter.unusedSimpArgs false
set_option linter.unusedVariables false
theorem compare_ult {W n m : Nat} {WW lo hi WW' lo' hi' : Int} (hw : Wd WW lo hi W n) (hw' : Wd WW' lo' hi' W m) (w : World) :
  Calls Try.prog 92 #[.int .i64 29, .agg #[.int .i64 WW, .int .u64 lo, .int .u64 hi], .agg #[.int .i64 WW', .int .u64 lo', .int .u64 hi']] w fun e w' => e = .returned (.bool (ltB n m)) ∧ Below w.heap.size w w' := by
 obtain ⟨h1, h2, hn, rfl, rfl, rfl⟩ := hw
 obtain ⟨-, -, hn', rfl, rfl, rfl⟩ := hw'
 go_enter Try.func92, Try.ntmps92
 go_wp2_with fail
 refine (isBelow_any (Wd.mk' h1 h2 hn) (Wd.mk' h1 h2 hn') _).mono ?_
 rintro e w1 ⟨rfl, hb1⟩
 have hb1' := below_step (w := w) (by go_grown) hb1
 have hs1 := hb1'.size
 have hz1_0 : w.heap.size < w1.heap.size := by have := hb1.size; (try simp at this); omega
 have hz1_1 : w.heap.size + 1 < w1.heap.size := by have := hb1.size; (try simp at this); omega
 obtain ⟨hc1, hf1⟩ := bcell hb1
 go_wp2_with fail
 go_ret
 exact ⟨rfl, by go_grown⟩
theorem compare_ule {W n m : Nat} {WW lo hi WW' lo' hi' : Int} (hw : Wd WW lo hi W n) (hw' : Wd WW' lo' hi' W m) (w : World) :
  Calls Try.prog 92 #[.int .i64 30, .agg #[.int .i64 WW, .int .u64 lo, .int .u64 hi], .agg #[.int .i64 WW', .int .u64 lo', .int .u64 hi']] w fun e w' => e = .returned (.bool (!ltB m n)) ∧ Below w.heap.size w w' := by
 obtain ⟨h1, h2, hn, rfl, rfl, rfl⟩ := hw
 obtain ⟨-, -, hn', rfl, rfl, rfl⟩ := hw'
 go_enter Try.func92, Try.ntmps92
 go_wp2_with fail
 refine (isBelow_any (Wd.mk' h1 h2 hn') (Wd.mk' h1 h2 hn) _).mono ?_
 rintro e w1 ⟨rfl, hb1⟩
 have hb1' := below_step (w := w) (by go_grown) hb1
 have hs1 := hb1'.size
 have hz1_0 : w.heap.size < w1.heap.size := by have := hb1.size; (try simp at this); omega
 have hz1_1 : w.heap.size + 1 < w1.heap.size := by have := hb1.size; (try simp at this); omega
 obtain ⟨hc1, hf1⟩ := bcell hb1
 go_wp2_with fail
 go_ret
 exact ⟨rfl, by go_grown⟩
theorem compare_ugt {W n m : Nat} {WW lo hi WW' lo' hi' : Int} (hw : Wd WW lo hi W n) (hw' : Wd WW' lo' hi' W m) (w : World) :
  Calls Try.prog 92 #[.int .i64 31, .agg #[.int .i64 WW, .int .u64 lo, .int .u64 hi], .agg #[.int .i64 WW', .int .u64 lo', .int .u64 hi']] w fun e w' => e = .returned (.bool (ltB m n)) ∧ Below w.heap.size w w' := by
 obtain ⟨h1, h2, hn, rfl, rfl, rfl⟩ := hw
 obtain ⟨-, -, hn', rfl, rfl, rfl⟩ := hw'
 go_enter Try.func92, Try.ntmps92
 go_wp2_with fail
 refine (isBelow_any (Wd.mk' h1 h2 hn') (Wd.mk' h1 h2 hn) _).mono ?_
 rintro e w1 ⟨rfl, hb1⟩
 have hb1' := below_step (w := w) (by go_grown) hb1
 have hs1 := hb1'.size
 have hz1_0 : w.heap.size < w1.heap.size := by have := hb1.size; (try simp at this); omega
 have hz1_1 : w.heap.size + 1 < w1.heap.size := by have := hb1.size; (try simp at this); omega
 obtain ⟨hc1, hf1⟩ := bcell hb1
 go_wp2_with fail
 go_ret
 exact ⟨rfl, by go_grown⟩
theorem compare_uge {W n m : Nat} {WW lo hi WW' lo' hi' : Int} (hw : Wd WW lo hi W n) (hw' : Wd WW' lo' hi' W m) (w : World) :
  Calls Try.prog 92 #[.int .i64 32, .agg #[.int .i64 WW, .int .u64 lo, .int .u64 hi], .agg #[.int .i64 WW', .int .u64 lo', .int .u64 hi']] w fun e w' => e = .returned (.bool (!ltB n m)) ∧ Below w.heap.size w w' := by
 obtain ⟨h1, h2, hn, rfl, rfl, rfl⟩ := hw
 obtain ⟨-, -, hn', rfl, rfl, rfl⟩ := hw'
 go_enter Try.func92, Try.ntmps92
 go_wp2_with fail
 refine (isBelow_any (Wd.mk' h1 h2 hn) (Wd.mk' h1 h2 hn') _).mono ?_
 rintro e w1 ⟨rfl, hb1⟩
 have hb1' := below_step (w := w) (by go_grown) hb1
 have hs1 := hb1'.size
 have hz1_0 : w.heap.size < w1.heap.size := by have := hb1.size; (try simp at this); omega
 have hz1_1 : w.heap.size + 1 < w1.heap.size := by have := hb1.size; (try simp at this); omega
 obtain ⟨hc1, hf1⟩ := bcell hb1
 go_wp2_with fail
 go_ret
 exact ⟨rfl, by go_grown⟩
theorem compare_slt {W n m : Nat} {WW lo hi WW' lo' hi' : Int} (hw : Wd WW lo hi W n) (hw' : Wd WW' lo' hi' W m) (w : World) :
  Calls Try.prog 92 #[.int .i64 33, .agg #[.int .i64 WW, .int .u64 lo, .int .u64 hi], .agg #[.int .i64 WW', .int .u64 lo', .int .u64 hi']] w fun e w' => e = .returned (.bool (ltB (top W n) (top W m))) ∧ Below w.heap.size w w' := by
 obtain ⟨h1, h2, hn, rfl, rfl, rfl⟩ := hw
 obtain ⟨-, -, hn', rfl, rfl, rfl⟩ := hw'
 go_enter Try.func92, Try.ntmps92
 go_wp2_with fail
 go_region_with ((first | (go_at_call_of 101 (LO n); refine (turnHighest_any (Wd.mk' h1 h2 hn) _).mono ?_; rintro e wq ⟨rfl, hb⟩; have hb' := below_step (w := w) (by go_grown) hb; have hs := hb'.size; have KFr : W3 wq w.heap.size W n <| F3 wq w.heap.size <| W3 wq (w.heap.size + 1) W m <| (∀ o, wq.frozen? ⟨w.heap.size + 1, o, none⟩ = false) := (by refine k3 hb ?_ ?_ ?_ <| f3 hb ?_ ?_ <| k3 hb ?_ ?_ ?_ <| keep_frozen2 hb ?_ ?_ <;> (first | (simp [go_sem]; done) | (simp [go_sem, KFr]; done) | (simp [go_sem, KFr, World.cell?_alloc_some, frozen?_alloc_cells]; done))); have KFrz0 : w.heap.size < wq.heap.size := World.block_lt_of_cell? _ _ KFr.1; have KFrz1 : w.heap.size + 1 < wq.heap.size := World.block_lt_of_cell? _ _ KFr.2.2.2.2.1; clear hb) | (go_at_call_of 101 (LO m); refine (turnHighest_any (Wd.mk' h1 h2 hn') _).mono ?_; rintro e wq ⟨rfl, hb⟩; have hb' := below_step (w := w) (by go_grown) hb; have hs := hb'.size; have KFr : W3 wq w.heap.size W n <| F3 wq w.heap.size <| W3 wq (w.heap.size + 1) W m <| (∀ o, wq.frozen? ⟨w.heap.size + 1, o, none⟩ = false) := (by refine k3 hb ?_ ?_ ?_ <| f3 hb ?_ ?_ <| k3 hb ?_ ?_ ?_ <| keep_frozen2 hb ?_ ?_ <;> (first | (simp [go_sem]; done) | (simp [go_sem, KFr]; done) | (simp [go_sem, KFr, World.cell?_alloc_some, frozen?_alloc_cells]; done))); have KFrz0 : w.heap.size < wq.heap.size := World.block_lt_of_cell? _ _ KFr.1; have KFrz1 : w.heap.size + 1 < wq.heap.size := World.block_lt_of_cell? _ _ KFr.2.2.2.2.1; clear hb)))
 all_goals
  go_wp2_with fail
  refine (isBelow_any (Wd.mk' h1 h2 (top_lt h1 hn)) (Wd.mk' h1 h2 (top_lt h1 hn')) _).mono ?_
  rintro e w1 ⟨rfl, hb1⟩
  have hb1' := below_step (w := w) (by go_grown) hb1
  have hs1 := hb1'.size
  go_wp2_with fail
  go_ret
  exact ⟨rfl, by go_grown⟩
theorem compare_sle {W n m : Nat} {WW lo hi WW' lo' hi' : Int} (hw : Wd WW lo hi W n) (hw' : Wd WW' lo' hi' W m) (w : World) :
  Calls Try.prog 92 #[.int .i64 34, .agg #[.int .i64 WW, .int .u64 lo, .int .u64 hi], .agg #[.int .i64 WW', .int .u64 lo', .int .u64 hi']] w fun e w' => e = .returned (.bool (!ltB (top W m) (top W n))) ∧ Below w.heap.size w w' := by
 obtain ⟨h1, h2, hn, rfl, rfl, rfl⟩ := hw
 obtain ⟨-, -, hn', rfl, rfl, rfl⟩ := hw'
 go_enter Try.func92, Try.ntmps92
 go_wp2_with fail
 go_region_with ((first | (go_at_call_of 101 (LO n); refine (turnHighest_any (Wd.mk' h1 h2 hn) _).mono ?_; rintro e wq ⟨rfl, hb⟩; have hb' := below_step (w := w) (by go_grown) hb; have hs := hb'.size; have KFr : W3 wq w.heap.size W n <| F3 wq w.heap.size <| W3 wq (w.heap.size + 1) W m <| (∀ o, wq.frozen? ⟨w.heap.size + 1, o, none⟩ = false) := (by refine k3 hb ?_ ?_ ?_ <| f3 hb ?_ ?_ <| k3 hb ?_ ?_ ?_ <| keep_frozen2 hb ?_ ?_ <;> (first | (simp [go_sem]; done) | (simp [go_sem, KFr]; done) | (simp [go_sem, KFr, World.cell?_alloc_some, frozen?_alloc_cells]; done))); have KFrz0 : w.heap.size < wq.heap.size := World.block_lt_of_cell? _ _ KFr.1; have KFrz1 : w.heap.size + 1 < wq.heap.size := World.block_lt_of_cell? _ _ KFr.2.2.2.2.1; clear hb) | (go_at_call_of 101 (LO m); refine (turnHighest_any (Wd.mk' h1 h2 hn') _).mono ?_; rintro e wq ⟨rfl, hb⟩; have hb' := below_step (w := w) (by go_grown) hb; have hs := hb'.size; have KFr : W3 wq w.heap.size W n <| F3 wq w.heap.size <| W3 wq (w.heap.size + 1) W m <| (∀ o, wq.frozen? ⟨w.heap.size + 1, o, none⟩ = false) := (by refine k3 hb ?_ ?_ ?_ <| f3 hb ?_ ?_ <| k3 hb ?_ ?_ ?_ <| keep_frozen2 hb ?_ ?_ <;> (first | (simp [go_sem]; done) | (simp [go_sem, KFr]; done) | (simp [go_sem, KFr, World.cell?_alloc_some, frozen?_alloc_cells]; done))); have KFrz0 : w.heap.size < wq.heap.size := World.block_lt_of_cell? _ _ KFr.1; have KFrz1 : w.heap.size + 1 < wq.heap.size := World.block_lt_of_cell? _ _ KFr.2.2.2.2.1; clear hb)))
 all_goals
  generalize hX : World.setCell (World.setCell (World.setCell (World.setCell (World.setCell (World.setCell wq _ _) _ _) _ _) _ _) _ _) _ _ = X
  have KFX : X.cell? ⟨w.heap.size, 0, none⟩ = some (.int .i64 W) ∧ X.cell? ⟨w.heap.size, 1, none⟩ = some (.int .u64 (LO (top W n))) ∧ X.cell? ⟨w.heap.size, 2, none⟩ = some (.int .u64 (HI (top W n))) ∧ X.cell? ⟨w.heap.size + 1, 0, none⟩ = some (.int .i64 W) ∧ X.cell? ⟨w.heap.size + 1, 1, none⟩ = some (.int .u64 (LO (top W m))) ∧ X.cell? ⟨w.heap.size + 1, 2, none⟩ = some (.int .u64 (HI (top W m))) ∧ (∀ o, X.frozen? ⟨w.heap.size, o, none⟩ = false) ∧ (∀ o, X.frozen? ⟨w.heap.size + 1, o, none⟩ = false) := by subst hX; refine ⟨?_, ?_, ?_, ?_, ?_, ?_, ?_, ?_⟩ <;> simp [go_sem, KFr]
  have hbX : Below w.heap.size w X := by subst hX; go_grown
  clear hX KFr
  have hsX := hbX.size
  go_wp2_with fail
  refine (isBelow_any (Wd.mk' h1 h2 (top_lt h1 hn')) (Wd.mk' h1 h2 (top_lt h1 hn)) _).mono ?_
  rintro e w1 ⟨rfl, hb1⟩
  have hb1' := below_step (w := w) (by go_grown) hb1
  have hs1 := hb1'.size
  go_wp2_with fail
  go_ret
  exact ⟨rfl, by go_grown⟩
end Go.Proofs.Ytedldoobmmhloaa
