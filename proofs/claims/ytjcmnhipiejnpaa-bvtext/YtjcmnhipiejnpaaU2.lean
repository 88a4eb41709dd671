/- Contracts: what is no right word; numbers that are out of place. -/
import Derived.Test.YtjcmnhipiejnpaaL
import Derived.Test.YtjcmnhipiejnpaaH
namespace Go.Proofs.Ytjcmnhipiejnpaa
open Go.RowKit
set_option linter.unusedSimpArgs false
set_option linter.unusedVariables false

/-- A right word. -/
def RW (A : Int) (N : Nat) : Prop := 1 ≤ A ∧ A ≤ 128 ∧ N < 2 ^ A.toNat
theorem RW.wd {A : Int} {N : Nat} (h : RW A N) : Wd A (LO N) (HI N) A.toNat N := ⟨by have := h.1; omega, by have := h.2.1; omega, h.2.2, by have := h.1; omega, rfl, rfl⟩

set_option maxHeartbeats 400000 in
theorem right_out {A : Int} {N : Nat} (h : A < 0 ∨ 128 < A) (w : World) :
    Calls Try.prog 10 #[.agg #[.int .i64 A, .int .u64 (LO (N)), .int .u64 (HI (N))]] w fun e w' => e = .returned (.bool false) ∧ Below w.heap.size w w' := by
  by_cases h0 : A < 0
  · go_enter Try.func10, Try.ntmps10
    go_wp2_with fail
    go_ret
    exact ⟨rfl, by go_grown⟩
  · have h1 : 128 < A := by omega
    go_enter Try.func10, Try.ntmps10
    go_wp2_with fail
    go_ret
    exact ⟨rfl, by go_grown⟩

set_option maxHeartbeats 400000 in
theorem right_big {W N : Nat} (h1 : 1 ≤ W) (h2 : W ≤ 128) (hN : N < 2 ^ 128) (hb : ¬ N < 2 ^ W) (w : World) :
    Calls Try.prog 10 #[.agg #[.int .i64 W, .int .u64 (LO (N)), .int .u64 (HI (N))]] w fun e w' => e = .returned (.bool false) ∧ Below w.heap.size w w' := by
  have hd : decide ((W : Int) < 0) = false := by simp only [decide_eq_false_iff_not]; omega
  have hd2 : decide ((128 : Int) < W) = false := by simp only [decide_eq_false_iff_not]; omega
  have hd3 : ((W : Int) == 0) = false := by simp; omega
  obtain ⟨r, hr⟩ : ∃ r, N % 2 ^ W = r := ⟨_, rfl⟩
  have hq : eqB N r = false := eqB_no (fun e => hb (by rw [e, ← hr]; exact mod_lt_W _ _))
  have HR : Hid _ := hr
  clear hr hb
  have hqe := eq_w
  go_enter Try.func10, Try.ntmps10
  go_wp2_with fail
  go_region_held3 (fun x => x.cell? ⟨w.heap.size, 0, none⟩ = some (.int .i64 W) ∧ x.cell? ⟨w.heap.size, 1, none⟩ = some (.int .u64 (LO (N))) ∧ x.cell? ⟨w.heap.size, 2, none⟩ = some (.int .u64 (HI (N))) ∧ Below w.heap.size w x)
    ((refine ⟨?_, ?_, ?_, ?_⟩ <;> first | (simp [go_sem]; done) | (refine cv_some ?_; simp [go_sem]; done) | (simp [go_sem, KFr, KFrz0]; done) | (refine cv_some ?_; simp [go_sem, KFr, KFrz0]; done) | (refine put_below ?_ ?_ <;> first | assumption | omega) | (have hH := ‹_ ∧ _ ∧ _ ∧ _›; exact put_below hH.2.2.2 (by omega)) | go_grown))
    ((first | (go_at_call 39; refine (cut_any (m := N) (r := r) h1 h2 hN HR.out rfl rfl rfl _).mono ?_; rintro e wq ⟨rfl, hb⟩; have hb' := below_step (w := w) (by go_grown) hb; have hs := hb'.size; have KFr : wq.cell? ⟨w.heap.size, 0, none⟩ = some (.int .i64 W) ∧ wq.cell? ⟨w.heap.size, 1, none⟩ = some (.int .u64 (LO (N))) ∧ wq.cell? ⟨w.heap.size, 2, none⟩ = some (.int .u64 (HI (N))) := ⟨keep_cell hb (by first | (simp [go_sem]; done) | (simp [go_sem, KFr]; done) | (simp [go_sem, KFr, World.cell?_alloc_some]; done) | (simp [go_sem, KFr, frozen?_alloc_cells]; done)), keep_cell hb (by first | (simp [go_sem]; done) | (simp [go_sem, KFr]; done) | (simp [go_sem, KFr, World.cell?_alloc_some]; done) | (simp [go_sem, KFr, frozen?_alloc_cells]; done)), keep_cell hb (by first | (simp [go_sem]; done) | (simp [go_sem, KFr]; done) | (simp [go_sem, KFr, World.cell?_alloc_some]; done) | (simp [go_sem, KFr, frozen?_alloc_cells]; done))⟩; have KFrz0 : w.heap.size < wq.heap.size := World.block_lt_of_cell? _ _ KFr.1; clear hb)))
  obtain ⟨-, -, -, hBq⟩ := ‹_ ∧ _ ∧ _ ∧ _›
  go_wp2_with fail
  go_ret
  exact ⟨rfl, by go_grown⟩

set_option maxHeartbeats 400000 in
theorem isWord_no {A : Int} {N : Nat} (hN : N < 2 ^ 128) (h : ¬ RW A N) (w : World) :
    Calls Try.prog 46 #[.agg #[.int .i64 A, .int .u64 (LO (N)), .int .u64 (HI (N))]] w fun e w' => e = .returned (.bool false) ∧ Below w.heap.size w w' := by
  by_cases h0 : A = 0
  · subst h0
    go_enter Try.func46, Try.ntmps46
    go_wp2_with fail
    go_ret
    exact ⟨rfl, by go_grown⟩
  · have hd3 : (A != 0) = true := by simp [h0]
    have HR : Hid (∀ wx, Calls Try.prog 10 #[.agg #[.int .i64 A, .int .u64 (LO (N)), .int .u64 (HI (N))]] wx fun e w' => e = .returned (.bool false) ∧ Below wx.heap.size wx w') := fun wx => by
      by_cases ho : A < 0 ∨ 128 < A
      · exact right_out ho wx
      · obtain ⟨W, rfl⟩ : ∃ W : Nat, A = W := ⟨A.toNat, by omega⟩
        exact right_big (by omega) (by omega) hN (fun hlt => h ⟨by omega, by omega, by simpa using hlt⟩) wx
    clear h
    go_enter Try.func46, Try.ntmps46
    go_wp2_with fail
    refine (HR.out _).mono ?_
    rintro e w1 ⟨rfl, hb1⟩
    have hb1' := below_step (w := w) (by go_grown) hb1
    have hs1 := hb1'.size
    have hz1_0 : w.heap.size < w1.heap.size := by have := hb1.size; (try simp at this); omega
    obtain ⟨hc1, hf1⟩ := bcell hb1
    go_wp2_with fail
    go_ret
    exact ⟨rfl, by go_grown⟩

set_option maxHeartbeats 400000 in
theorem concat_noa {A l h A' l' h' : Int} (HN : Hid (∀ wx, Calls Try.prog 46 #[.agg #[.int .i64 A, .int .u64 l, .int .u64 h]] wx fun e w' => e = .returned (.bool false) ∧ Below wx.heap.size wx w')) (w : World) :
    Calls Try.prog 19 #[.agg #[.int .i64 A, .int .u64 l, .int .u64 h], .agg #[.int .i64 A', .int .u64 l', .int .u64 h']] w fun e w' => e = .returned (.tuple #[.agg #[.int .i64 0, .int .u64 0, .int .u64 0], .int .i64 10]) ∧ Below w.heap.size w w' := by
  go_enter Try.func19, Try.ntmps19
  go_wp2_with fail
  refine (HN.out _).mono ?_
  rintro e w1 ⟨rfl, hb1⟩
  have hb1' := below_step (w := w) (by go_grown) hb1
  have hs1 := hb1'.size
  have KF1 : w1.cell? ⟨w.heap.size, 0, none⟩ = some (.int .i64 A) ∧ w1.cell? ⟨w.heap.size, 1, none⟩ = some (.int .u64 l) ∧ w1.cell? ⟨w.heap.size, 2, none⟩ = some (.int .u64 h) ∧ (∀ o, w1.frozen? ⟨w.heap.size, o, none⟩ = false) ∧ w1.cell? ⟨w.heap.size + 1, 0, none⟩ = some (.int .i64 A') ∧ w1.cell? ⟨w.heap.size + 1, 1, none⟩ = some (.int .u64 l') ∧ w1.cell? ⟨w.heap.size + 1, 2, none⟩ = some (.int .u64 h') ∧ (∀ o, w1.frozen? ⟨w.heap.size + 1, o, none⟩ = false) ∧ w1.cell? ⟨w.heap.size + 1 + 1, 0, none⟩ = some (cv w1 ⟨w.heap.size + 1 + 1, 0, none⟩) ∧ w1.cell? ⟨w.heap.size + 1 + 1, 1, none⟩ = some (cv w1 ⟨w.heap.size + 1 + 1, 1, none⟩) ∧ w1.cell? ⟨w.heap.size + 1 + 1, 2, none⟩ = some (cv w1 ⟨w.heap.size + 1 + 1, 2, none⟩) ∧ (∀ o, w1.frozen? ⟨w.heap.size + 1 + 1, o, none⟩ = false) := ⟨keep_cell hb1 (by first | (simp [go_sem]; done)), keep_cell hb1 (by first | (simp [go_sem]; done)), keep_cell hb1 (by first | (simp [go_sem]; done)), keep_frozen2 hb1 (by first | (simp [go_sem]; done)) (by first | (simp [go_sem]; done)), keep_cell hb1 (by first | (simp [go_sem]; done)), keep_cell hb1 (by first | (simp [go_sem]; done)), keep_cell hb1 (by first | (simp [go_sem]; done)), keep_frozen2 hb1 (by first | (simp [go_sem]; done)) (by first | (simp [go_sem]; done)), keep_some hb1 (by first | (simp [go_sem]; done)), keep_some hb1 (by first | (simp [go_sem]; done)), keep_some hb1 (by first | (simp [go_sem]; done)), keep_frozen2 hb1 (by first | (simp [go_sem]; done)) (by first | (simp [go_sem]; done))⟩; have KF1z0 : w.heap.size < w1.heap.size := World.block_lt_of_cell? _ _ KF1.1; have KF1z1 : w.heap.size + 1 < w1.heap.size := World.block_lt_of_cell? _ _ KF1.2.2.2.2.1; have KF1z2 : w.heap.size + 1 + 1 < w1.heap.size := World.block_lt_of_cell? _ _ KF1.2.2.2.2.2.2.2.2.1
  clear hb1
  go_wp2_with fail
  refine bodyPost_ret (v := .tuple #[.agg #[.int .i64 0, .int .u64 0, .int .u64 0], .int .i64 10]) (by simp [results, Try.results19, go_sem, *]) rfl ?_
  exact ⟨rfl, by go_grown⟩

set_option maxHeartbeats 400000 in
theorem concat_nob {W n : Nat} {A l h : Int} (h1 : 1 ≤ W) (h2 : W ≤ 128) (hn : n < 2 ^ W) (HN : Hid (∀ wx, Calls Try.prog 46 #[.agg #[.int .i64 A, .int .u64 l, .int .u64 h]] wx fun e w' => e = .returned (.bool false) ∧ Below wx.heap.size wx w')) (w : World) :
    Calls Try.prog 19 #[.agg #[.int .i64 W, .int .u64 (LO (n)), .int .u64 (HI (n))], .agg #[.int .i64 A, .int .u64 l, .int .u64 h]] w fun e w' => e = .returned (.tuple #[.agg #[.int .i64 0, .int .u64 0, .int .u64 0], .int .i64 10]) ∧ Below w.heap.size w w' := by
  go_enter Try.func19, Try.ntmps19
  go_wp2_with fail
  refine (isWord_any (Wd.mk' h1 h2 hn) _).mono ?_
  rintro e w1 ⟨rfl, hb1⟩
  have hb1' := below_step (w := w) (by go_grown) hb1
  have hs1 := hb1'.size
  have KF1 : w1.cell? ⟨w.heap.size, 0, none⟩ = some (.int .i64 W) ∧ w1.cell? ⟨w.heap.size, 1, none⟩ = some (.int .u64 (LO (n))) ∧ w1.cell? ⟨w.heap.size, 2, none⟩ = some (.int .u64 (HI (n))) ∧ (∀ o, w1.frozen? ⟨w.heap.size, o, none⟩ = false) ∧ w1.cell? ⟨w.heap.size + 1, 0, none⟩ = some (.int .i64 A) ∧ w1.cell? ⟨w.heap.size + 1, 1, none⟩ = some (.int .u64 l) ∧ w1.cell? ⟨w.heap.size + 1, 2, none⟩ = some (.int .u64 h) ∧ (∀ o, w1.frozen? ⟨w.heap.size + 1, o, none⟩ = false) ∧ w1.cell? ⟨w.heap.size + 1 + 1, 0, none⟩ = some (cv w1 ⟨w.heap.size + 1 + 1, 0, none⟩) ∧ w1.cell? ⟨w.heap.size + 1 + 1, 1, none⟩ = some (cv w1 ⟨w.heap.size + 1 + 1, 1, none⟩) ∧ w1.cell? ⟨w.heap.size + 1 + 1, 2, none⟩ = some (cv w1 ⟨w.heap.size + 1 + 1, 2, none⟩) ∧ (∀ o, w1.frozen? ⟨w.heap.size + 1 + 1, o, none⟩ = false) := ⟨keep_cell hb1 (by first | (simp [go_sem]; done)), keep_cell hb1 (by first | (simp [go_sem]; done)), keep_cell hb1 (by first | (simp [go_sem]; done)), keep_frozen2 hb1 (by first | (simp [go_sem]; done)) (by first | (simp [go_sem]; done)), keep_cell hb1 (by first | (simp [go_sem]; done)), keep_cell hb1 (by first | (simp [go_sem]; done)), keep_cell hb1 (by first | (simp [go_sem]; done)), keep_frozen2 hb1 (by first | (simp [go_sem]; done)) (by first | (simp [go_sem]; done)), keep_some hb1 (by first | (simp [go_sem]; done)), keep_some hb1 (by first | (simp [go_sem]; done)), keep_some hb1 (by first | (simp [go_sem]; done)), keep_frozen2 hb1 (by first | (simp [go_sem]; done)) (by first | (simp [go_sem]; done))⟩; have KF1z0 : w.heap.size < w1.heap.size := World.block_lt_of_cell? _ _ KF1.1; have KF1z1 : w.heap.size + 1 < w1.heap.size := World.block_lt_of_cell? _ _ KF1.2.2.2.2.1; have KF1z2 : w.heap.size + 1 + 1 < w1.heap.size := World.block_lt_of_cell? _ _ KF1.2.2.2.2.2.2.2.2.1
  clear hb1
  go_wp2_with fail
  refine (HN.out _).mono ?_
  rintro e w2 ⟨rfl, hb2⟩
  have hb2' := below_step (w := w) (by go_grown) hb2
  have hs2 := hb2'.size
  have KF2 : w2.cell? ⟨w.heap.size, 0, none⟩ = some (.int .i64 W) ∧ w2.cell? ⟨w.heap.size, 1, none⟩ = some (.int .u64 (LO (n))) ∧ w2.cell? ⟨w.heap.size, 2, none⟩ = some (.int .u64 (HI (n))) ∧ (∀ o, w2.frozen? ⟨w.heap.size, o, none⟩ = false) ∧ w2.cell? ⟨w.heap.size + 1, 0, none⟩ = some (.int .i64 A) ∧ w2.cell? ⟨w.heap.size + 1, 1, none⟩ = some (.int .u64 l) ∧ w2.cell? ⟨w.heap.size + 1, 2, none⟩ = some (.int .u64 h) ∧ (∀ o, w2.frozen? ⟨w.heap.size + 1, o, none⟩ = false) ∧ w2.cell? ⟨w.heap.size + 1 + 1, 0, none⟩ = some (cv w2 ⟨w.heap.size + 1 + 1, 0, none⟩) ∧ w2.cell? ⟨w.heap.size + 1 + 1, 1, none⟩ = some (cv w2 ⟨w.heap.size + 1 + 1, 1, none⟩) ∧ w2.cell? ⟨w.heap.size + 1 + 1, 2, none⟩ = some (cv w2 ⟨w.heap.size + 1 + 1, 2, none⟩) ∧ (∀ o, w2.frozen? ⟨w.heap.size + 1 + 1, o, none⟩ = false) := ⟨keep_cell hb2 (by first | (simp [go_sem]; done) | (simp [go_sem, KF1]; done) | (simp [go_sem, KF1, World.cell?_alloc_some]; done) | (simp [go_sem, KF1, frozen?_alloc_cells]; done)), keep_cell hb2 (by first | (simp [go_sem]; done) | (simp [go_sem, KF1]; done) | (simp [go_sem, KF1, World.cell?_alloc_some]; done) | (simp [go_sem, KF1, frozen?_alloc_cells]; done)), keep_cell hb2 (by first | (simp [go_sem]; done) | (simp [go_sem, KF1]; done) | (simp [go_sem, KF1, World.cell?_alloc_some]; done) | (simp [go_sem, KF1, frozen?_alloc_cells]; done)), keep_frozen2 hb2 (by first | (simp [go_sem]; done) | (simp [go_sem, KF1]; done) | (simp [go_sem, KF1, World.cell?_alloc_some]; done) | (simp [go_sem, KF1, frozen?_alloc_cells]; done)) (by first | (simp [go_sem]; done) | (simp [go_sem, KF1]; done) | (simp [go_sem, KF1, World.cell?_alloc_some]; done) | (simp [go_sem, KF1, frozen?_alloc_cells]; done)), keep_cell hb2 (by first | (simp [go_sem]; done) | (simp [go_sem, KF1]; done) | (simp [go_sem, KF1, World.cell?_alloc_some]; done) | (simp [go_sem, KF1, frozen?_alloc_cells]; done)), keep_cell hb2 (by first | (simp [go_sem]; done) | (simp [go_sem, KF1]; done) | (simp [go_sem, KF1, World.cell?_alloc_some]; done) | (simp [go_sem, KF1, frozen?_alloc_cells]; done)), keep_cell hb2 (by first | (simp [go_sem]; done) | (simp [go_sem, KF1]; done) | (simp [go_sem, KF1, World.cell?_alloc_some]; done) | (simp [go_sem, KF1, frozen?_alloc_cells]; done)), keep_frozen2 hb2 (by first | (simp [go_sem]; done) | (simp [go_sem, KF1]; done) | (simp [go_sem, KF1, World.cell?_alloc_some]; done) | (simp [go_sem, KF1, frozen?_alloc_cells]; done)) (by first | (simp [go_sem]; done) | (simp [go_sem, KF1]; done) | (simp [go_sem, KF1, World.cell?_alloc_some]; done) | (simp [go_sem, KF1, frozen?_alloc_cells]; done)), keep_some hb2 (by first | (simp [go_sem]; done) | (simp [go_sem, KF1]; done) | (simp [go_sem, KF1, World.cell?_alloc_some]; done) | (simp [go_sem, KF1, frozen?_alloc_cells]; done)), keep_some hb2 (by first | (simp [go_sem]; done) | (simp [go_sem, KF1]; done) | (simp [go_sem, KF1, World.cell?_alloc_some]; done) | (simp [go_sem, KF1, frozen?_alloc_cells]; done)), keep_some hb2 (by first | (simp [go_sem]; done) | (simp [go_sem, KF1]; done) | (simp [go_sem, KF1, World.cell?_alloc_some]; done) | (simp [go_sem, KF1, frozen?_alloc_cells]; done)), keep_frozen2 hb2 (by first | (simp [go_sem]; done) | (simp [go_sem, KF1]; done) | (simp [go_sem, KF1, World.cell?_alloc_some]; done) | (simp [go_sem, KF1, frozen?_alloc_cells]; done)) (by first | (simp [go_sem]; done) | (simp [go_sem, KF1]; done) | (simp [go_sem, KF1, World.cell?_alloc_some]; done) | (simp [go_sem, KF1, frozen?_alloc_cells]; done))⟩; have KF2z0 : w.heap.size < w2.heap.size := World.block_lt_of_cell? _ _ KF2.1; have KF2z1 : w.heap.size + 1 < w2.heap.size := World.block_lt_of_cell? _ _ KF2.2.2.2.2.1; have KF2z2 : w.heap.size + 1 + 1 < w2.heap.size := World.block_lt_of_cell? _ _ KF2.2.2.2.2.2.2.2.2.1
  clear hb2 KF1
  go_wp2_with fail
  refine bodyPost_ret (v := .tuple #[.agg #[.int .i64 0, .int .u64 0, .int .u64 0], .int .i64 10]) (by simp [results, Try.results19, go_sem, *]) rfl ?_
  exact ⟨rfl, by go_grown⟩

set_option maxHeartbeats 400000 in
theorem extract_no {A l h : Int} {i j : Int} (HN : Hid (∀ wx, Calls Try.prog 46 #[.agg #[.int .i64 A, .int .u64 l, .int .u64 h]] wx fun e w' => e = .returned (.bool false) ∧ Below wx.heap.size wx w')) (w : World) :
    Calls Try.prog 21 #[.agg #[.int .i64 A, .int .u64 l, .int .u64 h], .int .i64 i, .int .i64 j] w fun e w' => e = .returned (.tuple #[.agg #[.int .i64 0, .int .u64 0, .int .u64 0], .int .i64 10]) ∧ Below w.heap.size w w' := by
  go_enter Try.func21, Try.ntmps21
  go_wp2_with fail
  refine (HN.out _).mono ?_
  rintro e w1 ⟨rfl, hb1⟩
  have hb1' := below_step (w := w) (by go_grown) hb1
  have hs1 := hb1'.size
  have KF1 : w1.cell? ⟨w.heap.size, 0, none⟩ = some (.int .i64 A) ∧ w1.cell? ⟨w.heap.size, 1, none⟩ = some (.int .u64 l) ∧ w1.cell? ⟨w.heap.size, 2, none⟩ = some (.int .u64 h) ∧ (∀ o, w1.frozen? ⟨w.heap.size, o, none⟩ = false) ∧ w1.cell? ⟨w.heap.size + 1, 0, none⟩ = some (cv w1 ⟨w.heap.size + 1, 0, none⟩) ∧ w1.cell? ⟨w.heap.size + 1, 1, none⟩ = some (cv w1 ⟨w.heap.size + 1, 1, none⟩) ∧ w1.cell? ⟨w.heap.size + 1, 2, none⟩ = some (cv w1 ⟨w.heap.size + 1, 2, none⟩) ∧ (∀ o, w1.frozen? ⟨w.heap.size + 1, o, none⟩ = false) := ⟨keep_cell hb1 (by first | (simp [go_sem]; done)), keep_cell hb1 (by first | (simp [go_sem]; done)), keep_cell hb1 (by first | (simp [go_sem]; done)), keep_frozen2 hb1 (by first | (simp [go_sem]; done)) (by first | (simp [go_sem]; done)), keep_some hb1 (by first | (simp [go_sem]; done)), keep_some hb1 (by first | (simp [go_sem]; done)), keep_some hb1 (by first | (simp [go_sem]; done)), keep_frozen2 hb1 (by first | (simp [go_sem]; done)) (by first | (simp [go_sem]; done))⟩; have KF1z0 : w.heap.size < w1.heap.size := World.block_lt_of_cell? _ _ KF1.1; have KF1z1 : w.heap.size + 1 < w1.heap.size := World.block_lt_of_cell? _ _ KF1.2.2.2.2.1
  clear hb1
  go_wp2_with fail
  refine bodyPost_ret (v := .tuple #[.agg #[.int .i64 0, .int .u64 0, .int .u64 0], .int .i64 10]) (by simp [results, Try.results21, go_sem, *]) rfl ?_
  exact ⟨rfl, by go_grown⟩

set_option maxHeartbeats 400000 in
theorem extend_no {A l h : Int} {i : Int} {b : Bool} (HN : Hid (∀ wx, Calls Try.prog 46 #[.agg #[.int .i64 A, .int .u64 l, .int .u64 h]] wx fun e w' => e = .returned (.bool false) ∧ Below wx.heap.size wx w')) (w : World) :
    Calls Try.prog 23 #[.agg #[.int .i64 A, .int .u64 l, .int .u64 h], .int .i64 i, .bool b] w fun e w' => e = .returned (.tuple #[.agg #[.int .i64 0, .int .u64 0, .int .u64 0], .int .i64 10]) ∧ Below w.heap.size w w' := by
  go_enter Try.func23, Try.ntmps23
  go_wp2_with fail
  refine (HN.out _).mono ?_
  rintro e w1 ⟨rfl, hb1⟩
  have hb1' := below_step (w := w) (by go_grown) hb1
  have hs1 := hb1'.size
  have KF1 : w1.cell? ⟨w.heap.size, 0, none⟩ = some (.int .i64 A) ∧ w1.cell? ⟨w.heap.size, 1, none⟩ = some (.int .u64 l) ∧ w1.cell? ⟨w.heap.size, 2, none⟩ = some (.int .u64 h) ∧ (∀ o, w1.frozen? ⟨w.heap.size, o, none⟩ = false) ∧ w1.cell? ⟨w.heap.size + 1, 0, none⟩ = some (cv w1 ⟨w.heap.size + 1, 0, none⟩) ∧ w1.cell? ⟨w.heap.size + 1, 1, none⟩ = some (cv w1 ⟨w.heap.size + 1, 1, none⟩) ∧ w1.cell? ⟨w.heap.size + 1, 2, none⟩ = some (cv w1 ⟨w.heap.size + 1, 2, none⟩) ∧ (∀ o, w1.frozen? ⟨w.heap.size + 1, o, none⟩ = false) := ⟨keep_cell hb1 (by first | (simp [go_sem]; done)), keep_cell hb1 (by first | (simp [go_sem]; done)), keep_cell hb1 (by first | (simp [go_sem]; done)), keep_frozen2 hb1 (by first | (simp [go_sem]; done)) (by first | (simp [go_sem]; done)), keep_some hb1 (by first | (simp [go_sem]; done)), keep_some hb1 (by first | (simp [go_sem]; done)), keep_some hb1 (by first | (simp [go_sem]; done)), keep_frozen2 hb1 (by first | (simp [go_sem]; done)) (by first | (simp [go_sem]; done))⟩; have KF1z0 : w.heap.size < w1.heap.size := World.block_lt_of_cell? _ _ KF1.1; have KF1z1 : w.heap.size + 1 < w1.heap.size := World.block_lt_of_cell? _ _ KF1.2.2.2.2.1
  clear hb1
  go_wp2_with fail
  refine bodyPost_ret (v := .tuple #[.agg #[.int .i64 0, .int .u64 0, .int .u64 0], .int .i64 10]) (by simp [results, Try.results23, go_sem, *]) rfl ?_
  exact ⟨rfl, by go_grown⟩

set_option maxHeartbeats 400000 in
theorem rotate_no {A l h : Int} {i : Int} {b : Bool} (HN : Hid (∀ wx, Calls Try.prog 46 #[.agg #[.int .i64 A, .int .u64 l, .int .u64 h]] wx fun e w' => e = .returned (.bool false) ∧ Below wx.heap.size wx w')) (w : World) :
    Calls Try.prog 25 #[.agg #[.int .i64 A, .int .u64 l, .int .u64 h], .int .i64 i, .bool b] w fun e w' => e = .returned (.tuple #[.agg #[.int .i64 0, .int .u64 0, .int .u64 0], .int .i64 10]) ∧ Below w.heap.size w w' := by
  go_enter Try.func25, Try.ntmps25
  go_wp2_with fail
  refine (HN.out _).mono ?_
  rintro e w1 ⟨rfl, hb1⟩
  have hb1' := below_step (w := w) (by go_grown) hb1
  have hs1 := hb1'.size
  have KF1 : w1.cell? ⟨w.heap.size, 0, none⟩ = some (.int .i64 A) ∧ w1.cell? ⟨w.heap.size, 1, none⟩ = some (.int .u64 l) ∧ w1.cell? ⟨w.heap.size, 2, none⟩ = some (.int .u64 h) ∧ (∀ o, w1.frozen? ⟨w.heap.size, o, none⟩ = false) ∧ w1.cell? ⟨w.heap.size + 1, 0, none⟩ = some (cv w1 ⟨w.heap.size + 1, 0, none⟩) ∧ w1.cell? ⟨w.heap.size + 1, 1, none⟩ = some (cv w1 ⟨w.heap.size + 1, 1, none⟩) ∧ w1.cell? ⟨w.heap.size + 1, 2, none⟩ = some (cv w1 ⟨w.heap.size + 1, 2, none⟩) ∧ (∀ o, w1.frozen? ⟨w.heap.size + 1, o, none⟩ = false) := ⟨keep_cell hb1 (by first | (simp [go_sem]; done)), keep_cell hb1 (by first | (simp [go_sem]; done)), keep_cell hb1 (by first | (simp [go_sem]; done)), keep_frozen2 hb1 (by first | (simp [go_sem]; done)) (by first | (simp [go_sem]; done)), keep_some hb1 (by first | (simp [go_sem]; done)), keep_some hb1 (by first | (simp [go_sem]; done)), keep_some hb1 (by first | (simp [go_sem]; done)), keep_frozen2 hb1 (by first | (simp [go_sem]; done)) (by first | (simp [go_sem]; done))⟩; have KF1z0 : w.heap.size < w1.heap.size := World.block_lt_of_cell? _ _ KF1.1; have KF1z1 : w.heap.size + 1 < w1.heap.size := World.block_lt_of_cell? _ _ KF1.2.2.2.2.1
  clear hb1
  go_wp2_with fail
  refine bodyPost_ret (v := .tuple #[.agg #[.int .i64 0, .int .u64 0, .int .u64 0], .int .i64 10]) (by simp [results, Try.results25, go_sem, *]) rfl ?_
  exact ⟨rfl, by go_grown⟩

set_option maxHeartbeats 400000 in
theorem repeat_no {A l h : Int} {i : Int} (HN : Hid (∀ wx, Calls Try.prog 46 #[.agg #[.int .i64 A, .int .u64 l, .int .u64 h]] wx fun e w' => e = .returned (.bool false) ∧ Below wx.heap.size wx w')) (w : World) :
    Calls Try.prog 27 #[.agg #[.int .i64 A, .int .u64 l, .int .u64 h], .int .i64 i] w fun e w' => e = .returned (.tuple #[.agg #[.int .i64 0, .int .u64 0, .int .u64 0], .int .i64 10]) ∧ Below w.heap.size w w' := by
  go_enter Try.func27, Try.ntmps27
  go_wp2_with fail
  refine (HN.out _).mono ?_
  rintro e w1 ⟨rfl, hb1⟩
  have hb1' := below_step (w := w) (by go_grown) hb1
  have hs1 := hb1'.size
  have KF1 : w1.cell? ⟨w.heap.size, 0, none⟩ = some (.int .i64 A) ∧ w1.cell? ⟨w.heap.size, 1, none⟩ = some (.int .u64 l) ∧ w1.cell? ⟨w.heap.size, 2, none⟩ = some (.int .u64 h) ∧ (∀ o, w1.frozen? ⟨w.heap.size, o, none⟩ = false) ∧ w1.cell? ⟨w.heap.size + 1, 0, none⟩ = some (cv w1 ⟨w.heap.size + 1, 0, none⟩) ∧ w1.cell? ⟨w.heap.size + 1, 1, none⟩ = some (cv w1 ⟨w.heap.size + 1, 1, none⟩) ∧ w1.cell? ⟨w.heap.size + 1, 2, none⟩ = some (cv w1 ⟨w.heap.size + 1, 2, none⟩) ∧ (∀ o, w1.frozen? ⟨w.heap.size + 1, o, none⟩ = false) := ⟨keep_cell hb1 (by first | (simp [go_sem]; done)), keep_cell hb1 (by first | (simp [go_sem]; done)), keep_cell hb1 (by first | (simp [go_sem]; done)), keep_frozen2 hb1 (by first | (simp [go_sem]; done)) (by first | (simp [go_sem]; done)), keep_some hb1 (by first | (simp [go_sem]; done)), keep_some hb1 (by first | (simp [go_sem]; done)), keep_some hb1 (by first | (simp [go_sem]; done)), keep_frozen2 hb1 (by first | (simp [go_sem]; done)) (by first | (simp [go_sem]; done))⟩; have KF1z0 : w.heap.size < w1.heap.size := World.block_lt_of_cell? _ _ KF1.1; have KF1z1 : w.heap.size + 1 < w1.heap.size := World.block_lt_of_cell? _ _ KF1.2.2.2.2.1
  clear hb1
  go_wp2_with fail
  refine bodyPost_ret (v := .tuple #[.agg #[.int .i64 0, .int .u64 0, .int .u64 0], .int .i64 10]) (by simp [results, Try.results27, go_sem, *]) rfl ?_
  exact ⟨rfl, by go_grown⟩

set_option maxHeartbeats 400000 in
theorem extract_place {W n : Nat} {i j : Int} (hp : ¬ (i < W ∧ j ≤ i ∧ 0 ≤ j)) (h1 : 1 ≤ W) (h2 : W ≤ 128) (hn : n < 2 ^ W) (w : World) :
    Calls Try.prog 21 #[.agg #[.int .i64 W, .int .u64 (LO (n)), .int .u64 (HI (n))], .int .i64 i, .int .i64 j] w fun e w' => e = .returned (.tuple #[.agg #[.int .i64 0, .int .u64 0, .int .u64 0], .int .i64 12]) ∧ Below w.heap.size w w' := by
  have hc : (W : Int) ≤ i ∨ (i < W ∧ i < j) ∨ (i < W ∧ j ≤ i ∧ j < 0) := by omega
  clear hp
  rcases hc with hc | ⟨hc, hd⟩ | ⟨hc, hd, he⟩
  · skip
    go_enter Try.func21, Try.ntmps21
    go_wp2_with fail
    refine (isWord_any (Wd.mk' h1 h2 hn) _).mono ?_
    rintro e w1 ⟨rfl, hb1⟩
    have hb1' := below_step (w := w) (by go_grown) hb1
    have hs1 := hb1'.size
    have KF1 : w1.cell? ⟨w.heap.size, 0, none⟩ = some (.int .i64 W) ∧ w1.cell? ⟨w.heap.size, 1, none⟩ = some (.int .u64 (LO (n))) ∧ w1.cell? ⟨w.heap.size, 2, none⟩ = some (.int .u64 (HI (n))) ∧ (∀ o, w1.frozen? ⟨w.heap.size, o, none⟩ = false) ∧ w1.cell? ⟨w.heap.size + 1, 0, none⟩ = some (cv w1 ⟨w.heap.size + 1, 0, none⟩) ∧ w1.cell? ⟨w.heap.size + 1, 1, none⟩ = some (cv w1 ⟨w.heap.size + 1, 1, none⟩) ∧ w1.cell? ⟨w.heap.size + 1, 2, none⟩ = some (cv w1 ⟨w.heap.size + 1, 2, none⟩) ∧ (∀ o, w1.frozen? ⟨w.heap.size + 1, o, none⟩ = false) := ⟨keep_cell hb1 (by first | (simp [go_sem]; done)), keep_cell hb1 (by first | (simp [go_sem]; done)), keep_cell hb1 (by first | (simp [go_sem]; done)), keep_frozen2 hb1 (by first | (simp [go_sem]; done)) (by first | (simp [go_sem]; done)), keep_some hb1 (by first | (simp [go_sem]; done)), keep_some hb1 (by first | (simp [go_sem]; done)), keep_some hb1 (by first | (simp [go_sem]; done)), keep_frozen2 hb1 (by first | (simp [go_sem]; done)) (by first | (simp [go_sem]; done))⟩; have KF1z0 : w.heap.size < w1.heap.size := World.block_lt_of_cell? _ _ KF1.1; have KF1z1 : w.heap.size + 1 < w1.heap.size := World.block_lt_of_cell? _ _ KF1.2.2.2.2.1
    clear hb1
    go_wp2_with fail
    refine bodyPost_ret (v := .tuple #[.agg #[.int .i64 0, .int .u64 0, .int .u64 0], .int .i64 12]) (by simp [results, Try.results21, go_sem, *]) rfl ?_
    exact ⟨rfl, by go_grown⟩
  · skip
    go_enter Try.func21, Try.ntmps21
    go_wp2_with fail
    refine (isWord_any (Wd.mk' h1 h2 hn) _).mono ?_
    rintro e w1 ⟨rfl, hb1⟩
    have hb1' := below_step (w := w) (by go_grown) hb1
    have hs1 := hb1'.size
    have KF1 : w1.cell? ⟨w.heap.size, 0, none⟩ = some (.int .i64 W) ∧ w1.cell? ⟨w.heap.size, 1, none⟩ = some (.int .u64 (LO (n))) ∧ w1.cell? ⟨w.heap.size, 2, none⟩ = some (.int .u64 (HI (n))) ∧ (∀ o, w1.frozen? ⟨w.heap.size, o, none⟩ = false) ∧ w1.cell? ⟨w.heap.size + 1, 0, none⟩ = some (cv w1 ⟨w.heap.size + 1, 0, none⟩) ∧ w1.cell? ⟨w.heap.size + 1, 1, none⟩ = some (cv w1 ⟨w.heap.size + 1, 1, none⟩) ∧ w1.cell? ⟨w.heap.size + 1, 2, none⟩ = some (cv w1 ⟨w.heap.size + 1, 2, none⟩) ∧ (∀ o, w1.frozen? ⟨w.heap.size + 1, o, none⟩ = false) := ⟨keep_cell hb1 (by first | (simp [go_sem]; done)), keep_cell hb1 (by first | (simp [go_sem]; done)), keep_cell hb1 (by first | (simp [go_sem]; done)), keep_frozen2 hb1 (by first | (simp [go_sem]; done)) (by first | (simp [go_sem]; done)), keep_some hb1 (by first | (simp [go_sem]; done)), keep_some hb1 (by first | (simp [go_sem]; done)), keep_some hb1 (by first | (simp [go_sem]; done)), keep_frozen2 hb1 (by first | (simp [go_sem]; done)) (by first | (simp [go_sem]; done))⟩; have KF1z0 : w.heap.size < w1.heap.size := World.block_lt_of_cell? _ _ KF1.1; have KF1z1 : w.heap.size + 1 < w1.heap.size := World.block_lt_of_cell? _ _ KF1.2.2.2.2.1
    clear hb1
    go_wp2_with fail
    refine bodyPost_ret (v := .tuple #[.agg #[.int .i64 0, .int .u64 0, .int .u64 0], .int .i64 12]) (by simp [results, Try.results21, go_sem, *]) rfl ?_
    exact ⟨rfl, by go_grown⟩
  · skip
    go_enter Try.func21, Try.ntmps21
    go_wp2_with fail
    refine (isWord_any (Wd.mk' h1 h2 hn) _).mono ?_
    rintro e w1 ⟨rfl, hb1⟩
    have hb1' := below_step (w := w) (by go_grown) hb1
    have hs1 := hb1'.size
    have KF1 : w1.cell? ⟨w.heap.size, 0, none⟩ = some (.int .i64 W) ∧ w1.cell? ⟨w.heap.size, 1, none⟩ = some (.int .u64 (LO (n))) ∧ w1.cell? ⟨w.heap.size, 2, none⟩ = some (.int .u64 (HI (n))) ∧ (∀ o, w1.frozen? ⟨w.heap.size, o, none⟩ = false) ∧ w1.cell? ⟨w.heap.size + 1, 0, none⟩ = some (cv w1 ⟨w.heap.size + 1, 0, none⟩) ∧ w1.cell? ⟨w.heap.size + 1, 1, none⟩ = some (cv w1 ⟨w.heap.size + 1, 1, none⟩) ∧ w1.cell? ⟨w.heap.size + 1, 2, none⟩ = some (cv w1 ⟨w.heap.size + 1, 2, none⟩) ∧ (∀ o, w1.frozen? ⟨w.heap.size + 1, o, none⟩ = false) := ⟨keep_cell hb1 (by first | (simp [go_sem]; done)), keep_cell hb1 (by first | (simp [go_sem]; done)), keep_cell hb1 (by first | (simp [go_sem]; done)), keep_frozen2 hb1 (by first | (simp [go_sem]; done)) (by first | (simp [go_sem]; done)), keep_some hb1 (by first | (simp [go_sem]; done)), keep_some hb1 (by first | (simp [go_sem]; done)), keep_some hb1 (by first | (simp [go_sem]; done)), keep_frozen2 hb1 (by first | (simp [go_sem]; done)) (by first | (simp [go_sem]; done))⟩; have KF1z0 : w.heap.size < w1.heap.size := World.block_lt_of_cell? _ _ KF1.1; have KF1z1 : w.heap.size + 1 < w1.heap.size := World.block_lt_of_cell? _ _ KF1.2.2.2.2.1
    clear hb1
    go_wp2_with fail
    refine bodyPost_ret (v := .tuple #[.agg #[.int .i64 0, .int .u64 0, .int .u64 0], .int .i64 12]) (by simp [results, Try.results21, go_sem, *]) rfl ?_
    exact ⟨rfl, by go_grown⟩

set_option maxHeartbeats 400000 in
theorem extend_neg {W n : Nat} {i : Int} {b : Bool} (hp : i < 0) (h1 : 1 ≤ W) (h2 : W ≤ 128) (hn : n < 2 ^ W) (w : World) :
    Calls Try.prog 23 #[.agg #[.int .i64 W, .int .u64 (LO (n)), .int .u64 (HI (n))], .int .i64 i, .bool b] w fun e w' => e = .returned (.tuple #[.agg #[.int .i64 0, .int .u64 0, .int .u64 0], .int .i64 12]) ∧ Below w.heap.size w w' := by
  go_enter Try.func23, Try.ntmps23
  go_wp2_with fail
  refine (isWord_any (Wd.mk' h1 h2 hn) _).mono ?_
  rintro e w1 ⟨rfl, hb1⟩
  have hb1' := below_step (w := w) (by go_grown) hb1
  have hs1 := hb1'.size
  have KF1 : w1.cell? ⟨w.heap.size, 0, none⟩ = some (.int .i64 W) ∧ w1.cell? ⟨w.heap.size, 1, none⟩ = some (.int .u64 (LO (n))) ∧ w1.cell? ⟨w.heap.size, 2, none⟩ = some (.int .u64 (HI (n))) ∧ (∀ o, w1.frozen? ⟨w.heap.size, o, none⟩ = false) ∧ w1.cell? ⟨w.heap.size + 1, 0, none⟩ = some (cv w1 ⟨w.heap.size + 1, 0, none⟩) ∧ w1.cell? ⟨w.heap.size + 1, 1, none⟩ = some (cv w1 ⟨w.heap.size + 1, 1, none⟩) ∧ w1.cell? ⟨w.heap.size + 1, 2, none⟩ = some (cv w1 ⟨w.heap.size + 1, 2, none⟩) ∧ (∀ o, w1.frozen? ⟨w.heap.size + 1, o, none⟩ = false) := ⟨keep_cell hb1 (by first | (simp [go_sem]; done)), keep_cell hb1 (by first | (simp [go_sem]; done)), keep_cell hb1 (by first | (simp [go_sem]; done)), keep_frozen2 hb1 (by first | (simp [go_sem]; done)) (by first | (simp [go_sem]; done)), keep_some hb1 (by first | (simp [go_sem]; done)), keep_some hb1 (by first | (simp [go_sem]; done)), keep_some hb1 (by first | (simp [go_sem]; done)), keep_frozen2 hb1 (by first | (simp [go_sem]; done)) (by first | (simp [go_sem]; done))⟩; have KF1z0 : w.heap.size < w1.heap.size := World.block_lt_of_cell? _ _ KF1.1; have KF1z1 : w.heap.size + 1 < w1.heap.size := World.block_lt_of_cell? _ _ KF1.2.2.2.2.1
  clear hb1
  go_wp2_with fail
  refine bodyPost_ret (v := .tuple #[.agg #[.int .i64 0, .int .u64 0, .int .u64 0], .int .i64 12]) (by simp [results, Try.results23, go_sem, *]) rfl ?_
  exact ⟨rfl, by go_grown⟩

set_option maxHeartbeats 400000 in
theorem extend_wide {W n : Nat} {i : Int} {b : Bool} (hp : 0 ≤ i) (hq : 128 - (W : Int) < i) (h1 : 1 ≤ W) (h2 : W ≤ 128) (hn : n < 2 ^ W) (w : World) :
    Calls Try.prog 23 #[.agg #[.int .i64 W, .int .u64 (LO (n)), .int .u64 (HI (n))], .int .i64 i, .bool b] w fun e w' => e = .returned (.tuple #[.agg #[.int .i64 0, .int .u64 0, .int .u64 0], .int .i64 10]) ∧ Below w.heap.size w w' := by
  go_enter Try.func23, Try.ntmps23
  go_wp2_with fail
  refine (isWord_any (Wd.mk' h1 h2 hn) _).mono ?_
  rintro e w1 ⟨rfl, hb1⟩
  have hb1' := below_step (w := w) (by go_grown) hb1
  have hs1 := hb1'.size
  have KF1 : w1.cell? ⟨w.heap.size, 0, none⟩ = some (.int .i64 W) ∧ w1.cell? ⟨w.heap.size, 1, none⟩ = some (.int .u64 (LO (n))) ∧ w1.cell? ⟨w.heap.size, 2, none⟩ = some (.int .u64 (HI (n))) ∧ (∀ o, w1.frozen? ⟨w.heap.size, o, none⟩ = false) ∧ w1.cell? ⟨w.heap.size + 1, 0, none⟩ = some (cv w1 ⟨w.heap.size + 1, 0, none⟩) ∧ w1.cell? ⟨w.heap.size + 1, 1, none⟩ = some (cv w1 ⟨w.heap.size + 1, 1, none⟩) ∧ w1.cell? ⟨w.heap.size + 1, 2, none⟩ = some (cv w1 ⟨w.heap.size + 1, 2, none⟩) ∧ (∀ o, w1.frozen? ⟨w.heap.size + 1, o, none⟩ = false) := ⟨keep_cell hb1 (by first | (simp [go_sem]; done)), keep_cell hb1 (by first | (simp [go_sem]; done)), keep_cell hb1 (by first | (simp [go_sem]; done)), keep_frozen2 hb1 (by first | (simp [go_sem]; done)) (by first | (simp [go_sem]; done)), keep_some hb1 (by first | (simp [go_sem]; done)), keep_some hb1 (by first | (simp [go_sem]; done)), keep_some hb1 (by first | (simp [go_sem]; done)), keep_frozen2 hb1 (by first | (simp [go_sem]; done)) (by first | (simp [go_sem]; done))⟩; have KF1z0 : w.heap.size < w1.heap.size := World.block_lt_of_cell? _ _ KF1.1; have KF1z1 : w.heap.size + 1 < w1.heap.size := World.block_lt_of_cell? _ _ KF1.2.2.2.2.1
  clear hb1
  go_wp2_with fail
  refine bodyPost_ret (v := .tuple #[.agg #[.int .i64 0, .int .u64 0, .int .u64 0], .int .i64 10]) (by simp [results, Try.results23, go_sem, *]) rfl ?_
  exact ⟨rfl, by go_grown⟩

set_option maxHeartbeats 400000 in
theorem rotate_neg {W n : Nat} {i : Int} {b : Bool} (hp : i < 0) (h1 : 1 ≤ W) (h2 : W ≤ 128) (hn : n < 2 ^ W) (w : World) :
    Calls Try.prog 25 #[.agg #[.int .i64 W, .int .u64 (LO (n)), .int .u64 (HI (n))], .int .i64 i, .bool b] w fun e w' => e = .returned (.tuple #[.agg #[.int .i64 0, .int .u64 0, .int .u64 0], .int .i64 12]) ∧ Below w.heap.size w w' := by
  go_enter Try.func25, Try.ntmps25
  go_wp2_with fail
  refine (isWord_any (Wd.mk' h1 h2 hn) _).mono ?_
  rintro e w1 ⟨rfl, hb1⟩
  have hb1' := below_step (w := w) (by go_grown) hb1
  have hs1 := hb1'.size
  have KF1 : w1.cell? ⟨w.heap.size, 0, none⟩ = some (.int .i64 W) ∧ w1.cell? ⟨w.heap.size, 1, none⟩ = some (.int .u64 (LO (n))) ∧ w1.cell? ⟨w.heap.size, 2, none⟩ = some (.int .u64 (HI (n))) ∧ (∀ o, w1.frozen? ⟨w.heap.size, o, none⟩ = false) ∧ w1.cell? ⟨w.heap.size + 1, 0, none⟩ = some (cv w1 ⟨w.heap.size + 1, 0, none⟩) ∧ w1.cell? ⟨w.heap.size + 1, 1, none⟩ = some (cv w1 ⟨w.heap.size + 1, 1, none⟩) ∧ w1.cell? ⟨w.heap.size + 1, 2, none⟩ = some (cv w1 ⟨w.heap.size + 1, 2, none⟩) ∧ (∀ o, w1.frozen? ⟨w.heap.size + 1, o, none⟩ = false) := ⟨keep_cell hb1 (by first | (simp [go_sem]; done)), keep_cell hb1 (by first | (simp [go_sem]; done)), keep_cell hb1 (by first | (simp [go_sem]; done)), keep_frozen2 hb1 (by first | (simp [go_sem]; done)) (by first | (simp [go_sem]; done)), keep_some hb1 (by first | (simp [go_sem]; done)), keep_some hb1 (by first | (simp [go_sem]; done)), keep_some hb1 (by first | (simp [go_sem]; done)), keep_frozen2 hb1 (by first | (simp [go_sem]; done)) (by first | (simp [go_sem]; done))⟩; have KF1z0 : w.heap.size < w1.heap.size := World.block_lt_of_cell? _ _ KF1.1; have KF1z1 : w.heap.size + 1 < w1.heap.size := World.block_lt_of_cell? _ _ KF1.2.2.2.2.1
  clear hb1
  go_wp2_with fail
  refine bodyPost_ret (v := .tuple #[.agg #[.int .i64 0, .int .u64 0, .int .u64 0], .int .i64 12]) (by simp [results, Try.results25, go_sem, *]) rfl ?_
  exact ⟨rfl, by go_grown⟩

set_option maxHeartbeats 400000 in
theorem repeat_low {W n : Nat} {i : Int} (hp : i < 1) (h1 : 1 ≤ W) (h2 : W ≤ 128) (hn : n < 2 ^ W) (w : World) :
    Calls Try.prog 27 #[.agg #[.int .i64 W, .int .u64 (LO (n)), .int .u64 (HI (n))], .int .i64 i] w fun e w' => e = .returned (.tuple #[.agg #[.int .i64 0, .int .u64 0, .int .u64 0], .int .i64 12]) ∧ Below w.heap.size w w' := by
  go_enter Try.func27, Try.ntmps27
  go_wp2_with fail
  refine (isWord_any (Wd.mk' h1 h2 hn) _).mono ?_
  rintro e w1 ⟨rfl, hb1⟩
  have hb1' := below_step (w := w) (by go_grown) hb1
  have hs1 := hb1'.size
  have KF1 : w1.cell? ⟨w.heap.size, 0, none⟩ = some (.int .i64 W) ∧ w1.cell? ⟨w.heap.size, 1, none⟩ = some (.int .u64 (LO (n))) ∧ w1.cell? ⟨w.heap.size, 2, none⟩ = some (.int .u64 (HI (n))) ∧ (∀ o, w1.frozen? ⟨w.heap.size, o, none⟩ = false) ∧ w1.cell? ⟨w.heap.size + 1, 0, none⟩ = some (cv w1 ⟨w.heap.size + 1, 0, none⟩) ∧ w1.cell? ⟨w.heap.size + 1, 1, none⟩ = some (cv w1 ⟨w.heap.size + 1, 1, none⟩) ∧ w1.cell? ⟨w.heap.size + 1, 2, none⟩ = some (cv w1 ⟨w.heap.size + 1, 2, none⟩) ∧ (∀ o, w1.frozen? ⟨w.heap.size + 1, o, none⟩ = false) := ⟨keep_cell hb1 (by first | (simp [go_sem]; done)), keep_cell hb1 (by first | (simp [go_sem]; done)), keep_cell hb1 (by first | (simp [go_sem]; done)), keep_frozen2 hb1 (by first | (simp [go_sem]; done)) (by first | (simp [go_sem]; done)), keep_some hb1 (by first | (simp [go_sem]; done)), keep_some hb1 (by first | (simp [go_sem]; done)), keep_some hb1 (by first | (simp [go_sem]; done)), keep_frozen2 hb1 (by first | (simp [go_sem]; done)) (by first | (simp [go_sem]; done))⟩; have KF1z0 : w.heap.size < w1.heap.size := World.block_lt_of_cell? _ _ KF1.1; have KF1z1 : w.heap.size + 1 < w1.heap.size := World.block_lt_of_cell? _ _ KF1.2.2.2.2.1
  clear hb1
  go_wp2_with fail
  refine bodyPost_ret (v := .tuple #[.agg #[.int .i64 0, .int .u64 0, .int .u64 0], .int .i64 12]) (by simp [results, Try.results27, go_sem, *]) rfl ?_
  exact ⟨rfl, by go_grown⟩

set_option maxHeartbeats 400000 in
theorem repeat_wide {W n : Nat} {i : Int} (hp : 1 ≤ i) (hq : ((128 / W : Nat) : Int) < i) (h1 : 1 ≤ W) (h2 : W ≤ 128) (hn : n < 2 ^ W) (w : World) :
    Calls Try.prog 27 #[.agg #[.int .i64 W, .int .u64 (LO (n)), .int .u64 (HI (n))], .int .i64 i] w fun e w' => e = .returned (.tuple #[.agg #[.int .i64 0, .int .u64 0, .int .u64 0], .int .i64 10]) ∧ Below w.heap.size w w' := by
  have hq2 : (128 : Int) / (W : Int) < i := hq
  clear hq
  go_enter Try.func27, Try.ntmps27
  go_wp2_with fail
  refine (isWord_any (Wd.mk' h1 h2 hn) _).mono ?_
  rintro e w1 ⟨rfl, hb1⟩
  have hb1' := below_step (w := w) (by go_grown) hb1
  have hs1 := hb1'.size
  have KF1 : w1.cell? ⟨w.heap.size, 0, none⟩ = some (.int .i64 W) ∧ w1.cell? ⟨w.heap.size, 1, none⟩ = some (.int .u64 (LO (n))) ∧ w1.cell? ⟨w.heap.size, 2, none⟩ = some (.int .u64 (HI (n))) ∧ (∀ o, w1.frozen? ⟨w.heap.size, o, none⟩ = false) ∧ w1.cell? ⟨w.heap.size + 1, 0, none⟩ = some (cv w1 ⟨w.heap.size + 1, 0, none⟩) ∧ w1.cell? ⟨w.heap.size + 1, 1, none⟩ = some (cv w1 ⟨w.heap.size + 1, 1, none⟩) ∧ w1.cell? ⟨w.heap.size + 1, 2, none⟩ = some (cv w1 ⟨w.heap.size + 1, 2, none⟩) ∧ (∀ o, w1.frozen? ⟨w.heap.size + 1, o, none⟩ = false) := ⟨keep_cell hb1 (by first | (simp [go_sem]; done)), keep_cell hb1 (by first | (simp [go_sem]; done)), keep_cell hb1 (by first | (simp [go_sem]; done)), keep_frozen2 hb1 (by first | (simp [go_sem]; done)) (by first | (simp [go_sem]; done)), keep_some hb1 (by first | (simp [go_sem]; done)), keep_some hb1 (by first | (simp [go_sem]; done)), keep_some hb1 (by first | (simp [go_sem]; done)), keep_frozen2 hb1 (by first | (simp [go_sem]; done)) (by first | (simp [go_sem]; done))⟩; have KF1z0 : w.heap.size < w1.heap.size := World.block_lt_of_cell? _ _ KF1.1; have KF1z1 : w.heap.size + 1 < w1.heap.size := World.block_lt_of_cell? _ _ KF1.2.2.2.2.1
  clear hb1
  go_wp2_with fail
  refine bodyPost_ret (v := .tuple #[.agg #[.int .i64 0, .int .u64 0, .int .u64 0], .int .i64 10]) (by simp [results, Try.results27, go_sem, *]) rfl ?_
  exact ⟨rfl, by go_grown⟩
end Go.Proofs.Ytjcmnhipiejnpaa
