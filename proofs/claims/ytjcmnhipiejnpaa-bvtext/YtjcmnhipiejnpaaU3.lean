/- Contracts: the document's right words; what it says of wrong ones. -/
import Derived.Test.YtjcmnhipiejnpaaU1
import Derived.Test.YtjcmnhipiejnpaaU2
namespace Go.Proofs.Ytjcmnhipiejnpaa
open Go.RowKit
set_option linter.unusedSimpArgs false
set_option linter.unusedVariables false

theorem bs_cells {w : World} {base g W n : Nat} (h : Bs w base (.slice (some ⟨g, 0, none⟩) W W) (bl W n)) : ∀ j, j < W → w.cell? ⟨g, 0 + j, none⟩ = some (.bool (n.testBit j)) := fun j hj => by
  rw [Nat.zero_add]; exact Bs.cell h (bl_len W n).symm (bl_get hj)

set_option maxHeartbeats 400000 in
theorem refright_out {A : Int} {N : Nat} (h : A < 0 ∨ 128 < A) (w : World) :
    Calls Try.prog 11 #[.agg #[.int .i64 A, .int .u64 (LO (N)), .int .u64 (HI (N))]] w fun e w' => e = .returned (.bool false) ∧ Below w.heap.size w w' := by
  by_cases h0 : A < 0
  · go_enter Try.func11, Try.ntmps11
    go_wp2_with fail
    go_ret
    exact ⟨rfl, by go_grown⟩
  · have h1 : 128 < A := by omega
    go_enter Try.func11, Try.ntmps11
    go_wp2_with fail
    go_ret
    exact ⟨rfl, by go_grown⟩

set_option maxHeartbeats 400000 in
theorem refright_0 {N : Nat} (w : World) :
    Calls Try.prog 11 #[.agg #[.int .i64 0, .int .u64 (LO (N)), .int .u64 (HI (N))]] w fun e w' => e = .returned (.bool (decide (LO N ≤ 1) && (HI N == 0))) ∧ Below w.heap.size w w' := by
  by_cases h0 : LO N ≤ 1
  · by_cases h1 : HI N = 0
    · go_enter Try.func11, Try.ntmps11
      go_wp2_with fail
      go_ret
      exact ⟨by simp [h0, h1], by go_grown⟩
    · go_enter Try.func11, Try.ntmps11
      go_wp2_with fail
      go_ret
      exact ⟨by simp [h0, h1], by go_grown⟩
  · have hd : decide (LO N ≤ 1) = false := by simp; omega
    have HE : Hid ((decide (LO N ≤ 1) && (HI N == 0)) = false) := by unfold Hid; rw [hd]; rfl
    rw [HE.out]
    clear h0
    go_enter Try.func11, Try.ntmps11
    go_wp2_with fail
    go_ret
    exact ⟨rfl, by go_grown⟩

set_option maxHeartbeats 800000 in
theorem refright_w {W N r : Nat} {c : Bool} (h1 : 1 ≤ W) (h2 : W ≤ 128) (hN : N < 2 ^ 128) (hr : N % 2 ^ W = r) (hc : eqB r N = c) (w : World) :
    Calls Try.prog 11 #[.agg #[.int .i64 W, .int .u64 (LO (N)), .int .u64 (HI (N))]] w fun e w' => e = .returned (.bool c) ∧ Below w.heap.size w w' := by
  have hd : decide ((W : Int) < 0) = false := by simp only [decide_eq_false_iff_not]; omega
  have hd2 : decide ((128 : Int) < W) = false := by simp only [decide_eq_false_iff_not]; omega
  have hd3 : ((W : Int) == 0) = false := by simp; omega
  have HW : Hid (∀ (g : Nat) (wx : World), (∀ j, j < W → wx.cell? ⟨g, 0 + j, none⟩ = some (.bool (N.testBit j))) → g < wx.heap.size → Calls Try.prog 40 #[.slice (some ⟨g, 0, none⟩) W W] wx fun e w' => e = .returned (.agg #[.int .i64 W, .int .u64 (LO (r)), .int .u64 (HI (r))]) ∧ Below wx.heap.size wx w') := fun g wx hx hg => by rw [← hr]; exact word_at h2 hN wx hx hg
  clear hr
  have hqe := eq_w
  go_enter Try.func11, Try.ntmps11
  go_wp2_with fail
  go_region_held3 (fun x => x.cell? ⟨w.heap.size, 0, none⟩ = some (.int .i64 W) ∧ x.cell? ⟨w.heap.size, 1, none⟩ = some (.int .u64 (LO (N))) ∧ x.cell? ⟨w.heap.size, 2, none⟩ = some (.int .u64 (HI (N))) ∧ Below w.heap.size w x)
    ((refine ⟨?_, ?_, ?_, ?_⟩ <;> first | (simp [go_sem]; done) | (refine cv_some ?_; simp [go_sem]; done) | (simp [go_sem, KFr, KFrz0]; done) | (refine cv_some ?_; simp [go_sem, KFr, KFrz0]; done) | (refine put_below ?_ ?_ <;> first | assumption | omega) | (have hH := ‹_ ∧ _ ∧ _ ∧ _›; exact put_below hH.2.2.2 (by omega)) | go_grown))
    ((first | (go_at_call 41; refine (bits_own h2 hN rfl rfl rfl _).mono ?_; rintro e wq ⟨g, rfl, hB, hb⟩; have hb' := below_step (w := w) (by go_grown) hb; have hs := hb'.size; have KFr : wq.cell? ⟨w.heap.size, 0, none⟩ = some (.int .i64 W) ∧ wq.cell? ⟨w.heap.size, 1, none⟩ = some (.int .u64 (LO (N))) ∧ wq.cell? ⟨w.heap.size, 2, none⟩ = some (.int .u64 (HI (N))) := ⟨keep_cell hb (by first | (simp [go_sem]; done) | (simp [go_sem, KFr]; done) | (simp [go_sem, KFr, World.cell?_alloc_some]; done) | (simp [go_sem, KFr, frozen?_alloc_cells]; done)), keep_cell hb (by first | (simp [go_sem]; done) | (simp [go_sem, KFr]; done) | (simp [go_sem, KFr, World.cell?_alloc_some]; done) | (simp [go_sem, KFr, frozen?_alloc_cells]; done)), keep_cell hb (by first | (simp [go_sem]; done) | (simp [go_sem, KFr]; done) | (simp [go_sem, KFr, World.cell?_alloc_some]; done) | (simp [go_sem, KFr, frozen?_alloc_cells]; done))⟩; have KFrz0 : w.heap.size < wq.heap.size := World.block_lt_of_cell? _ _ KFr.1; have HBs : Hid (Bs wq _ (.slice (some ⟨g, 0, none⟩) W W) (bl W N)) := hB; clear hB; clear hb) | (go_at_call 40; refine (HW.out _ _ (bs_cells HBs.out) (Bs.lt HBs.out).2).mono ?_; rintro e wq ⟨rfl, hb⟩; have hb' := below_step (w := w) (by go_grown) hb; have hs := hb'.size; have KFr : wq.cell? ⟨w.heap.size, 0, none⟩ = some (.int .i64 W) ∧ wq.cell? ⟨w.heap.size, 1, none⟩ = some (.int .u64 (LO (N))) ∧ wq.cell? ⟨w.heap.size, 2, none⟩ = some (.int .u64 (HI (N))) := ⟨keep_cell hb (by first | (simp [go_sem]; done) | (simp [go_sem, KFr]; done) | (simp [go_sem, KFr, World.cell?_alloc_some]; done) | (simp [go_sem, KFr, frozen?_alloc_cells]; done)), keep_cell hb (by first | (simp [go_sem]; done) | (simp [go_sem, KFr]; done) | (simp [go_sem, KFr, World.cell?_alloc_some]; done) | (simp [go_sem, KFr, frozen?_alloc_cells]; done)), keep_cell hb (by first | (simp [go_sem]; done) | (simp [go_sem, KFr]; done) | (simp [go_sem, KFr, World.cell?_alloc_some]; done) | (simp [go_sem, KFr, frozen?_alloc_cells]; done))⟩; have KFrz0 : w.heap.size < wq.heap.size := World.block_lt_of_cell? _ _ KFr.1; clear hb)))
  obtain ⟨-, -, -, hBq⟩ := ‹_ ∧ _ ∧ _ ∧ _›
  go_wp2_with fail
  go_ret
  exact ⟨rfl, by go_grown⟩

set_option maxHeartbeats 400000 in
theorem refword_yes {W n : Nat} (h1 : 1 ≤ W) (h2 : W ≤ 128) (hn : n < 2 ^ W) (w : World) :
    Calls Try.prog 48 #[.agg #[.int .i64 W, .int .u64 (LO (n)), .int .u64 (HI (n))]] w fun e w' => e = .returned (.bool true) ∧ Below w.heap.size w w' := by
  have HR : Hid (∀ wx, Calls Try.prog 11 #[.agg #[.int .i64 W, .int .u64 (LO (n)), .int .u64 (HI (n))]] wx fun e w' => e = .returned (.bool true) ∧ Below wx.heap.size wx w') := fun wx => refright_w h1 h2 (Nat.lt_of_lt_of_le hn (pow_le_128 h2)) (Nat.mod_eq_of_lt hn) (eqB_yes rfl) wx
  have hd3 : decide (0 < W) = true := by simp; omega
  go_enter Try.func48, Try.ntmps48
  go_wp2_with fail
  refine (HR.out _).mono ?_
  rintro e w1 ⟨rfl, hb1⟩
  have hb1' := below_step (w := w) (by go_grown) hb1
  have hs1 := hb1'.size
  have hz1_0 : w.heap.size < w1.heap.size := by have := hb1.size; (try simp at this); omega
  obtain ⟨hc1, hf1⟩ := bcell hb1
  go_wp2_with fail
  go_ret
  exact ⟨rfl, by go_grown⟩

set_option maxHeartbeats 400000 in
theorem refword_f {A : Int} {N : Nat} (HR : Hid (∀ wx, Calls Try.prog 11 #[.agg #[.int .i64 A, .int .u64 (LO (N)), .int .u64 (HI (N))]] wx fun e w' => e = .returned (.bool false) ∧ Below wx.heap.size wx w')) (w : World) :
    Calls Try.prog 48 #[.agg #[.int .i64 A, .int .u64 (LO (N)), .int .u64 (HI (N))]] w fun e w' => e = .returned (.bool false) ∧ Below w.heap.size w w' := by
  go_enter Try.func48, Try.ntmps48
  go_wp2_with fail
  refine (HR.out _).mono ?_
  rintro e w1 ⟨rfl, hb1⟩
  have hb1' := below_step (w := w) (by go_grown) hb1
  have hs1 := hb1'.size
  have hz1_0 : w.heap.size < w1.heap.size := by have := hb1.size; (try simp at this); omega
  obtain ⟨hc1, hf1⟩ := bcell hb1
  go_wp2_with fail
  go_ret
  exact ⟨rfl, by go_grown⟩

set_option maxHeartbeats 400000 in
theorem refword_0 {N : Nat} (w : World) :
    Calls Try.prog 48 #[.agg #[.int .i64 0, .int .u64 (LO (N)), .int .u64 (HI (N))]] w fun e w' => e = .returned (.bool false) ∧ Below w.heap.size w w' := by
  obtain ⟨c, hc⟩ : ∃ c : Bool, (decide (LO N ≤ 1) && (HI N == 0)) = c := ⟨_, rfl⟩
  have HR : Hid (∀ wx, Calls Try.prog 11 #[.agg #[.int .i64 0, .int .u64 (LO (N)), .int .u64 (HI (N))]] wx fun e w' => e = .returned (.bool c) ∧ Below wx.heap.size wx w') := fun wx => by rw [← hc]; exact refright_0 wx
  clear hc
  cases c
  · go_enter Try.func48, Try.ntmps48
    go_wp2_with fail
    refine (HR.out _).mono ?_
    rintro e w1 ⟨rfl, hb1⟩
    have hb1' := below_step (w := w) (by go_grown) hb1
    have hs1 := hb1'.size
    have hz1_0 : w.heap.size < w1.heap.size := by have := hb1.size; (try simp at this); omega
    obtain ⟨hc1, hf1⟩ := bcell hb1
    go_wp2_with fail
    go_ret
    exact ⟨rfl, by go_grown⟩
  · go_enter Try.func48, Try.ntmps48
    go_wp2_with fail
    refine (HR.out _).mono ?_
    rintro e w1 ⟨rfl, hb1⟩
    have hb1' := below_step (w := w) (by go_grown) hb1
    have hs1 := hb1'.size
    have hz1_0 : w.heap.size < w1.heap.size := by have := hb1.size; (try simp at this); omega
    obtain ⟨hc1, hf1⟩ := bcell hb1
    go_wp2_with fail
    go_ret
    exact ⟨rfl, by go_grown⟩

theorem refword_no {A : Int} {N : Nat} (hN : N < 2 ^ 128) (h : ¬ RW A N) (w : World) :
    Calls Try.prog 48 #[.agg #[.int .i64 A, .int .u64 (LO (N)), .int .u64 (HI (N))]] w fun e w' => e = .returned (.bool false) ∧ Below w.heap.size w w' := by
  by_cases h0 : A = 0
  · subst h0; exact refword_0 w
  · refine refword_f (fun wx => ?_) w
    by_cases ho : A < 0 ∨ 128 < A
    · exact refright_out ho wx
    · obtain ⟨W, rfl⟩ : ∃ W : Nat, A = W := ⟨A.toNat, by omega⟩
      refine refright_w (by omega) (by omega) hN rfl (eqB_no fun e => h ⟨by omega, by omega, ?_⟩) wx
      rw [← e]; simpa using mod_lt_W _ _

set_option maxHeartbeats 400000 in
theorem refconcat_noa {A l h A' l' h' : Int} (HN : Hid (∀ wx, Calls Try.prog 48 #[.agg #[.int .i64 A, .int .u64 l, .int .u64 h]] wx fun e w' => e = .returned (.bool false) ∧ Below wx.heap.size wx w')) (w : World) :
    Calls Try.prog 20 #[.agg #[.int .i64 A, .int .u64 l, .int .u64 h], .agg #[.int .i64 A', .int .u64 l', .int .u64 h']] w fun e w' => e = .returned (.tuple #[.agg #[.int .i64 0, .int .u64 0, .int .u64 0], .int .i64 10]) ∧ Below w.heap.size w w' := by
  go_enter Try.func20, Try.ntmps20
  go_wp2_with fail
  refine (HN.out _).mono ?_
  rintro e w1 ⟨rfl, hb1⟩
  have hb1' := below_step (w := w) (by go_grown) hb1
  have hs1 := hb1'.size
  have KF1 : w1.cell? ⟨w.heap.size, 0, none⟩ = some (.int .i64 A) ∧ w1.cell? ⟨w.heap.size, 1, none⟩ = some (.int .u64 l) ∧ w1.cell? ⟨w.heap.size, 2, none⟩ = some (.int .u64 h) ∧ (∀ o, w1.frozen? ⟨w.heap.size, o, none⟩ = false) ∧ w1.cell? ⟨w.heap.size + 1, 0, none⟩ = some (.int .i64 A') ∧ w1.cell? ⟨w.heap.size + 1, 1, none⟩ = some (.int .u64 l') ∧ w1.cell? ⟨w.heap.size + 1, 2, none⟩ = some (.int .u64 h') ∧ (∀ o, w1.frozen? ⟨w.heap.size + 1, o, none⟩ = false) ∧ w1.cell? ⟨w.heap.size + 1 + 1, 0, none⟩ = some (cv w1 ⟨w.heap.size + 1 + 1, 0, none⟩) ∧ w1.cell? ⟨w.heap.size + 1 + 1, 1, none⟩ = some (cv w1 ⟨w.heap.size + 1 + 1, 1, none⟩) ∧ w1.cell? ⟨w.heap.size + 1 + 1, 2, none⟩ = some (cv w1 ⟨w.heap.size + 1 + 1, 2, none⟩) ∧ (∀ o, w1.frozen? ⟨w.heap.size + 1 + 1, o, none⟩ = false) := ⟨keep_cell hb1 (by first | (simp [go_sem]; done)), keep_cell hb1 (by first | (simp [go_sem]; done)), keep_cell hb1 (by first | (simp [go_sem]; done)), keep_frozen2 hb1 (by first | (simp [go_sem]; done)) (by first | (simp [go_sem]; done)), keep_cell hb1 (by first | (simp [go_sem]; done)), keep_cell hb1 (by first | (simp [go_sem]; done)), keep_cell hb1 (by first | (simp [go_sem]; done)), keep_frozen2 hb1 (by first | (simp [go_sem]; done)) (by first | (simp [go_sem]; done)), keep_some hb1 (by first | (simp [go_sem]; done)), keep_some hb1 (by first | (simp [go_sem]; done)), keep_some hb1 (by first | (simp [go_sem]; done)), keep_frozen2 hb1 (by first | (simp [go_sem]; done)) (by first | (simp [go_sem]; done))⟩; have KF1z0 : w.heap.size < w1.heap.size := World.block_lt_of_cell? _ _ KF1.1; have KF1z1 : w.heap.size + 1 < w1.heap.size := World.block_lt_of_cell? _ _ KF1.2.2.2.2.1; have KF1z2 : w.heap.size + 1 + 1 < w1.heap.size := World.block_lt_of_cell? _ _ KF1.2.2.2.2.2.2.2.2.1
  clear hb1
  go_wp2_with fail
  refine bodyPost_ret (v := .tuple #[.agg #[.int .i64 0, .int .u64 0, .int .u64 0], .int .i64 10]) (by simp [results, Try.results20, go_sem, *]) rfl ?_
  exact ⟨rfl, by go_grown⟩

set_option maxHeartbeats 400000 in
theorem refconcat_nob {W n : Nat} {A l h : Int} (h1 : 1 ≤ W) (h2 : W ≤ 128) (hn : n < 2 ^ W) (HN : Hid (∀ wx, Calls Try.prog 48 #[.agg #[.int .i64 A, .int .u64 l, .int .u64 h]] wx fun e w' => e = .returned (.bool false) ∧ Below wx.heap.size wx w')) (w : World) :
    Calls Try.prog 20 #[.agg #[.int .i64 W, .int .u64 (LO (n)), .int .u64 (HI (n))], .agg #[.int .i64 A, .int .u64 l, .int .u64 h]] w fun e w' => e = .returned (.tuple #[.agg #[.int .i64 0, .int .u64 0, .int .u64 0], .int .i64 10]) ∧ Below w.heap.size w w' := by
  go_enter Try.func20, Try.ntmps20
  go_wp2_with fail
  refine (refword_yes h1 h2 hn _).mono ?_
  rintro e w1 ⟨rfl, hb1⟩
  have hb1' := below_step (w := w) (by go_grown) hb1
  have hs1 := hb1'.size
  have KF1 : w1.cell? ⟨w.heap.size, 0, none⟩ = some (.int .i64 W) ∧ w1.cell? ⟨w.heap.size, 1, none⟩ = some (.int .u64 (LO (n))) ∧ w1.cell? ⟨w.heap.size, 2, none⟩ = some (.int .u64 (HI (n))) ∧ (∀ o, w1.frozen? ⟨w.heap.size, o, none⟩ = false) ∧ w1.cell? ⟨w.heap.size + 1, 0, none⟩ = some (.int .i64 A) ∧ w1.cell? ⟨w.heap.size + 1, 1, none⟩ = some (.int .u64 l) ∧ w1.cell? ⟨w.heap.size + 1, 2, none⟩ = some (.int .u64 h) ∧ (∀ o, w1.frozen? ⟨w.heap.size + 1, o, none⟩ = false) ∧ w1.cell? ⟨w.heap.size + 1 + 1, 0, none⟩ = some (cv w1 ⟨w.heap.size + 1 + 1, 0, none⟩) ∧ w1.cell? ⟨w.heap.size + 1 + 1, 1, none⟩ = some (cv w1 ⟨w.heap.size + 1 + 1, 1, none⟩) ∧ w1.cell? ⟨w.heap.size + 1 + 1, 2, none⟩ = some (cv w1 ⟨w.heap.size + 1 + 1, 2, none⟩) ∧ (∀ o, w1.frozen? ⟨w.heap.size + 1 + 1, o, none⟩ = false) := ⟨keep_cell hb1 (by first | (simp [go_sem]; done)), keep_cell hb1 (by first | (simp [go_sem]; done)), keep_cell hb1 (by first | (simp [go_sem]; done)), keep_frozen2 hb1 (by first | (simp [go_sem]; done)) (by first | (simp [go_sem]; done)), keep_cell hb1 (by first | (simp [go_sem]; done)), keep_cell hb1 (by first | (simp [go_sem]; done)), keep_cell hb1 (by first | (simp [go_sem]; done)), keep_frozen2 hb1 (by first | (simp [go_sem]; done)) (by first | (simp [go_sem]; done)), keep_some hb1 (by first | (simp [go_sem]; done)), keep_some hb1 (by first | (simp [go_sem]; done)), keep_some hb1 (by first | (simp [go_sem]; done)), keep_frozen2 hb1 (by first | (simp [go_sem]; done)) (by first | (simp [go_sem]; done))⟩; have KF1z0 : w.heap.size < w1.heap.size := World.block_lt_of_cell? _ _ KF1.1; have KF1z1 : w.heap.size + 1 < w1.heap.size := World.block_lt_of_cell? _ _ KF1.2.2.2.2.1; have KF1z2 : w.heap.size + 1 + 1 < w1.heap.size := World.block_lt_of_cell? _ _ KF1.2.2.2.2.2.2.2.2.1
  clear hb1
  go_wp2_with fail
  refine (HN.out _).mono ?_
  rintro e w2 ⟨rfl, hb2⟩
  have hb2' := below_step (w := w) (by go_grown) hb2
  have hs2 := hb2'.size
  have KF2 : w2.cell? ⟨w.heap.size, 0, none⟩ = some (.int .i64 W) ∧ w2.cell? ⟨w.heap.size, 1, none⟩ = some (.int .u64 (LO (n))) ∧ w2.cell? ⟨w.heap.size, 2, none⟩ = some (.int .u64 (HI (n))) ∧ (∀ o, w2.frozen? ⟨w.heap.size, o, none⟩ = false) ∧ w2.cell? ⟨w.heap.size + 1, 0, none⟩ = some (.int .i64 A) ∧ w2.cell? ⟨w.heap.size + 1, 1, none⟩ = some (.int .u64 l) ∧ w2.cell? ⟨w.heap.size + 1, 2, none⟩ = some (.int .u64 h) ∧ (∀ o, w2.frozen? ⟨w.heap.size + 1, o, none⟩ = false) ∧ w2.cell? ⟨w.heap.size + 1 + 1, 0, none⟩ = some (cv w2 ⟨w.heap.size + 1 + 1, 0, none⟩) ∧ w2.cell? ⟨w.heap.size + 1 + 1, 1, none⟩ = some (cv w2 ⟨w.heap.size + 1 + 1, 1, none⟩) ∧ w2.cell? ⟨w.heap.size + 1 + 1, 2, none⟩ = some (cv w2 ⟨w.heap.size + 1 + 1, 2, none⟩) ∧ (∀ o, w2.frozen? ⟨w.heap.size + 1 + 1, o, none⟩ = false) := ⟨keep_cell hb2 (by first | (simp [go_sem]; done) | (simp [go_sem, KF1]; done) | (simp [go_sem, KF1, World.cell?_alloc_some]; done) | (simp [go_sem, KF1, frozen?_alloc_cells]; done)), keep_cell hb2 (by first | (simp [go_sem]; done) | (simp [go_sem, KF1]; done) | (simp [go_sem, KF1, World.cell?_alloc_some]; done) | (simp [go_sem, KF1, frozen?_alloc_cells]; done)), keep_cell hb2 (by first | (simp [go_sem]; done) | (simp [go_sem, KF1]; done) | (simp [go_sem, KF1, World.cell?_alloc_some]; done) | (simp [go_sem, KF1, frozen?_alloc_cells]; done)), keep_frozen2 hb2 (by first | (simp [go_sem]; done) | (simp [go_sem, KF1]; done) | (simp [go_sem, KF1, World.cell?_alloc_some]; done) | (simp [go_sem, KF1, frozen?_alloc_cells]; done)) (by first | (simp [go_sem]; done) | (simp [go_sem, KF1]; done) | (simp [go_sem, KF1, World.cell?_alloc_some]; done) | (simp [go_sem, KF1, frozen?_alloc_cells]; done)), keep_cell hb2 (by first | (simp [go_sem]; done) | (simp [go_sem, KF1]; done) | (simp [go_sem, KF1, World.cell?_alloc_some]; done) | (simp [go_sem, KF1, frozen?_alloc_cells]; done)), keep_cell hb2 (by first | (simp [go_sem]; done) | (simp [go_sem, KF1]; done) | (simp [go_sem, KF1, World.cell?_alloc_some]; done) | (simp [go_sem, KF1, frozen?_alloc_cells]; done)), keep_cell hb2 (by first | (simp [go_sem]; done) | (simp [go_sem, KF1]; done) | (simp [go_sem, KF1, World.cell?_alloc_some]; done) | (simp [go_sem, KF1, frozen?_alloc_cells]; done)), keep_frozen2 hb2 (by first | (simp [go_sem]; done) | (simp [go_sem, KF1]; done) | (simp [go_sem, KF1, World.cell?_alloc_some]; done) | (simp [go_sem, KF1, frozen?_alloc_cells]; done)) (by first | (simp [go_sem]; done) | (simp [go_sem, KF1]; done) | (simp [go_sem, KF1, World.cell?_alloc_some]; done) | (simp [go_sem, KF1, frozen?_alloc_cells]; done)), keep_some hb2 (by first | (simp [go_sem]; done) | (simp [go_sem, KF1]; done) | (simp [go_sem, KF1, World.cell?_alloc_some]; done) | (simp [go_sem, KF1, frozen?_alloc_cells]; done)), keep_some hb2 (by first | (simp [go_sem]; done) | (simp [go_sem, KF1]; done) | (simp [go_sem, KF1, World.cell?_alloc_some]; done) | (simp [go_sem, KF1, frozen?_alloc_cells]; done)), keep_some hb2 (by first | (simp [go_sem]; done) | (simp [go_sem, KF1]; done) | (simp [go_sem, KF1, World.cell?_alloc_some]; done) | (simp [go_sem, KF1, frozen?_alloc_cells]; done)), keep_frozen2 hb2 (by first | (simp [go_sem]; done) | (simp [go_sem, KF1]; done) | (simp [go_sem, KF1, World.cell?_alloc_some]; done) | (simp [go_sem, KF1, frozen?_alloc_cells]; done)) (by first | (simp [go_sem]; done) | (simp [go_sem, KF1]; done) | (simp [go_sem, KF1, World.cell?_alloc_some]; done) | (simp [go_sem, KF1, frozen?_alloc_cells]; done))⟩; have KF2z0 : w.heap.size < w2.heap.size := World.block_lt_of_cell? _ _ KF2.1; have KF2z1 : w.heap.size + 1 < w2.heap.size := World.block_lt_of_cell? _ _ KF2.2.2.2.2.1; have KF2z2 : w.heap.size + 1 + 1 < w2.heap.size := World.block_lt_of_cell? _ _ KF2.2.2.2.2.2.2.2.2.1
  clear hb2 KF1
  go_wp2_with fail
  refine bodyPost_ret (v := .tuple #[.agg #[.int .i64 0, .int .u64 0, .int .u64 0], .int .i64 10]) (by simp [results, Try.results20, go_sem, *]) rfl ?_
  exact ⟨rfl, by go_grown⟩

set_option maxHeartbeats 400000 in
theorem refconcat_sum {W n V m : Nat} (h1 : 1 ≤ W) (h2 : W ≤ 128) (hn : n < 2 ^ W) (k1 : 1 ≤ V) (k2 : V ≤ 128) (hm : m < 2 ^ V) (hs : 128 < W + V) (w : World) :
    Calls Try.prog 20 #[.agg #[.int .i64 W, .int .u64 (LO (n)), .int .u64 (HI (n))], .agg #[.int .i64 V, .int .u64 (LO (m)), .int .u64 (HI (m))]] w fun e w' => e = .returned (.tuple #[.agg #[.int .i64 0, .int .u64 0, .int .u64 0], .int .i64 10]) ∧ Below w.heap.size w w' := by
  go_enter Try.func20, Try.ntmps20
  go_wp2_with fail
  refine (refword_yes h1 h2 hn _).mono ?_
  rintro e w1 ⟨rfl, hb1⟩
  have hb1' := below_step (w := w) (by go_grown) hb1
  have hs1 := hb1'.size
  have KF1 : w1.cell? ⟨w.heap.size, 0, none⟩ = some (.int .i64 W) ∧ w1.cell? ⟨w.heap.size, 1, none⟩ = some (.int .u64 (LO (n))) ∧ w1.cell? ⟨w.heap.size, 2, none⟩ = some (.int .u64 (HI (n))) ∧ (∀ o, w1.frozen? ⟨w.heap.size, o, none⟩ = false) ∧ w1.cell? ⟨w.heap.size + 1, 0, none⟩ = some (.int .i64 V) ∧ w1.cell? ⟨w.heap.size + 1, 1, none⟩ = some (.int .u64 (LO (m))) ∧ w1.cell? ⟨w.heap.size + 1, 2, none⟩ = some (.int .u64 (HI (m))) ∧ (∀ o, w1.frozen? ⟨w.heap.size + 1, o, none⟩ = false) ∧ w1.cell? ⟨w.heap.size + 1 + 1, 0, none⟩ = some (cv w1 ⟨w.heap.size + 1 + 1, 0, none⟩) ∧ w1.cell? ⟨w.heap.size + 1 + 1, 1, none⟩ = some (cv w1 ⟨w.heap.size + 1 + 1, 1, none⟩) ∧ w1.cell? ⟨w.heap.size + 1 + 1, 2, none⟩ = some (cv w1 ⟨w.heap.size + 1 + 1, 2, none⟩) ∧ (∀ o, w1.frozen? ⟨w.heap.size + 1 + 1, o, none⟩ = false) := ⟨keep_cell hb1 (by first | (simp [go_sem]; done)), keep_cell hb1 (by first | (simp [go_sem]; done)), keep_cell hb1 (by first | (simp [go_sem]; done)), keep_frozen2 hb1 (by first | (simp [go_sem]; done)) (by first | (simp [go_sem]; done)), keep_cell hb1 (by first | (simp [go_sem]; done)), keep_cell hb1 (by first | (simp [go_sem]; done)), keep_cell hb1 (by first | (simp [go_sem]; done)), keep_frozen2 hb1 (by first | (simp [go_sem]; done)) (by first | (simp [go_sem]; done)), keep_some hb1 (by first | (simp [go_sem]; done)), keep_some hb1 (by first | (simp [go_sem]; done)), keep_some hb1 (by first | (simp [go_sem]; done)), keep_frozen2 hb1 (by first | (simp [go_sem]; done)) (by first | (simp [go_sem]; done))⟩; have KF1z0 : w.heap.size < w1.heap.size := World.block_lt_of_cell? _ _ KF1.1; have KF1z1 : w.heap.size + 1 < w1.heap.size := World.block_lt_of_cell? _ _ KF1.2.2.2.2.1; have KF1z2 : w.heap.size + 1 + 1 < w1.heap.size := World.block_lt_of_cell? _ _ KF1.2.2.2.2.2.2.2.2.1
  clear hb1
  go_wp2_with fail
  refine (refword_yes k1 k2 hm _).mono ?_
  rintro e w2 ⟨rfl, hb2⟩
  have hb2' := below_step (w := w) (by go_grown) hb2
  have hs2 := hb2'.size
  have KF2 : w2.cell? ⟨w.heap.size, 0, none⟩ = some (.int .i64 W) ∧ w2.cell? ⟨w.heap.size, 1, none⟩ = some (.int .u64 (LO (n))) ∧ w2.cell? ⟨w.heap.size, 2, none⟩ = some (.int .u64 (HI (n))) ∧ (∀ o, w2.frozen? ⟨w.heap.size, o, none⟩ = false) ∧ w2.cell? ⟨w.heap.size + 1, 0, none⟩ = some (.int .i64 V) ∧ w2.cell? ⟨w.heap.size + 1, 1, none⟩ = some (.int .u64 (LO (m))) ∧ w2.cell? ⟨w.heap.size + 1, 2, none⟩ = some (.int .u64 (HI (m))) ∧ (∀ o, w2.frozen? ⟨w.heap.size + 1, o, none⟩ = false) ∧ w2.cell? ⟨w.heap.size + 1 + 1, 0, none⟩ = some (cv w2 ⟨w.heap.size + 1 + 1, 0, none⟩) ∧ w2.cell? ⟨w.heap.size + 1 + 1, 1, none⟩ = some (cv w2 ⟨w.heap.size + 1 + 1, 1, none⟩) ∧ w2.cell? ⟨w.heap.size + 1 + 1, 2, none⟩ = some (cv w2 ⟨w.heap.size + 1 + 1, 2, none⟩) ∧ (∀ o, w2.frozen? ⟨w.heap.size + 1 + 1, o, none⟩ = false) := ⟨keep_cell hb2 (by first | (simp [go_sem]; done) | (simp [go_sem, KF1]; done) | (simp [go_sem, KF1, World.cell?_alloc_some]; done) | (simp [go_sem, KF1, frozen?_alloc_cells]; done)), keep_cell hb2 (by first | (simp [go_sem]; done) | (simp [go_sem, KF1]; done) | (simp [go_sem, KF1, World.cell?_alloc_some]; done) | (simp [go_sem, KF1, frozen?_alloc_cells]; done)), keep_cell hb2 (by first | (simp [go_sem]; done) | (simp [go_sem, KF1]; done) | (simp [go_sem, KF1, World.cell?_alloc_some]; done) | (simp [go_sem, KF1, frozen?_alloc_cells]; done)), keep_frozen2 hb2 (by first | (simp [go_sem]; done) | (simp [go_sem, KF1]; done) | (simp [go_sem, KF1, World.cell?_alloc_some]; done) | (simp [go_sem, KF1, frozen?_alloc_cells]; done)) (by first | (simp [go_sem]; done) | (simp [go_sem, KF1]; done) | (simp [go_sem, KF1, World.cell?_alloc_some]; done) | (simp [go_sem, KF1, frozen?_alloc_cells]; done)), keep_cell hb2 (by first | (simp [go_sem]; done) | (simp [go_sem, KF1]; done) | (simp [go_sem, KF1, World.cell?_alloc_some]; done) | (simp [go_sem, KF1, frozen?_alloc_cells]; done)), keep_cell hb2 (by first | (simp [go_sem]; done) | (simp [go_sem, KF1]; done) | (simp [go_sem, KF1, World.cell?_alloc_some]; done) | (simp [go_sem, KF1, frozen?_alloc_cells]; done)), keep_cell hb2 (by first | (simp [go_sem]; done) | (simp [go_sem, KF1]; done) | (simp [go_sem, KF1, World.cell?_alloc_some]; done) | (simp [go_sem, KF1, frozen?_alloc_cells]; done)), keep_frozen2 hb2 (by first | (simp [go_sem]; done) | (simp [go_sem, KF1]; done) | (simp [go_sem, KF1, World.cell?_alloc_some]; done) | (simp [go_sem, KF1, frozen?_alloc_cells]; done)) (by first | (simp [go_sem]; done) | (simp [go_sem, KF1]; done) | (simp [go_sem, KF1, World.cell?_alloc_some]; done) | (simp [go_sem, KF1, frozen?_alloc_cells]; done)), keep_some hb2 (by first | (simp [go_sem]; done) | (simp [go_sem, KF1]; done) | (simp [go_sem, KF1, World.cell?_alloc_some]; done) | (simp [go_sem, KF1, frozen?_alloc_cells]; done)), keep_some hb2 (by first | (simp [go_sem]; done) | (simp [go_sem, KF1]; done) | (simp [go_sem, KF1, World.cell?_alloc_some]; done) | (simp [go_sem, KF1, frozen?_alloc_cells]; done)), keep_some hb2 (by first | (simp [go_sem]; done) | (simp [go_sem, KF1]; done) | (simp [go_sem, KF1, World.cell?_alloc_some]; done) | (simp [go_sem, KF1, frozen?_alloc_cells]; done)), keep_frozen2 hb2 (by first | (simp [go_sem]; done) | (simp [go_sem, KF1]; done) | (simp [go_sem, KF1, World.cell?_alloc_some]; done) | (simp [go_sem, KF1, frozen?_alloc_cells]; done)) (by first | (simp [go_sem]; done) | (simp [go_sem, KF1]; done) | (simp [go_sem, KF1, World.cell?_alloc_some]; done) | (simp [go_sem, KF1, frozen?_alloc_cells]; done))⟩; have KF2z0 : w.heap.size < w2.heap.size := World.block_lt_of_cell? _ _ KF2.1; have KF2z1 : w.heap.size + 1 < w2.heap.size := World.block_lt_of_cell? _ _ KF2.2.2.2.2.1; have KF2z2 : w.heap.size + 1 + 1 < w2.heap.size := World.block_lt_of_cell? _ _ KF2.2.2.2.2.2.2.2.2.1
  clear hb2 KF1
  go_wp2_with fail
  refine bodyPost_ret (v := .tuple #[.agg #[.int .i64 0, .int .u64 0, .int .u64 0], .int .i64 10]) (by simp [results, Try.results20, go_sem, *]) rfl ?_
  exact ⟨rfl, by go_grown⟩

set_option maxHeartbeats 400000 in
theorem refextract_no {A l h : Int} {i j : Int} (HN : Hid (∀ wx, Calls Try.prog 48 #[.agg #[.int .i64 A, .int .u64 l, .int .u64 h]] wx fun e w' => e = .returned (.bool false) ∧ Below wx.heap.size wx w')) (w : World) :
    Calls Try.prog 22 #[.agg #[.int .i64 A, .int .u64 l, .int .u64 h], .int .i64 i, .int .i64 j] w fun e w' => e = .returned (.tuple #[.agg #[.int .i64 0, .int .u64 0, .int .u64 0], .int .i64 10]) ∧ Below w.heap.size w w' := by
  go_enter Try.func22, Try.ntmps22
  go_wp2_with fail
  refine (HN.out _).mono ?_
  rintro e w1 ⟨rfl, hb1⟩
  have hb1' := below_step (w := w) (by go_grown) hb1
  have hs1 := hb1'.size
  have KF1 : w1.cell? ⟨w.heap.size, 0, none⟩ = some (.int .i64 A) ∧ w1.cell? ⟨w.heap.size, 1, none⟩ = some (.int .u64 l) ∧ w1.cell? ⟨w.heap.size, 2, none⟩ = some (.int .u64 h) ∧ (∀ o, w1.frozen? ⟨w.heap.size, o, none⟩ = false) ∧ w1.cell? ⟨w.heap.size + 1, 0, none⟩ = some (cv w1 ⟨w.heap.size + 1, 0, none⟩) ∧ w1.cell? ⟨w.heap.size + 1, 1, none⟩ = some (cv w1 ⟨w.heap.size + 1, 1, none⟩) ∧ w1.cell? ⟨w.heap.size + 1, 2, none⟩ = some (cv w1 ⟨w.heap.size + 1, 2, none⟩) ∧ (∀ o, w1.frozen? ⟨w.heap.size + 1, o, none⟩ = false) := ⟨keep_cell hb1 (by first | (simp [go_sem]; done)), keep_cell hb1 (by first | (simp [go_sem]; done)), keep_cell hb1 (by first | (simp [go_sem]; done)), keep_frozen2 hb1 (by first | (simp [go_sem]; done)) (by first | (simp [go_sem]; done)), keep_some hb1 (by first | (simp [go_sem]; done)), keep_some hb1 (by first | (simp [go_sem]; done)), keep_some hb1 (by first | (simp [go_sem]; done)), keep_frozen2 hb1 (by first | (simp [go_sem]; done)) (by first | (simp [go_sem]; done))⟩; have KF1z0 : w.heap.size < w1.heap.size := World.block_lt_of_cell? _ _ KF1.1; have KF1z1 : w.heap.size + 1 < w1.heap.size := World.block_lt_of_cell? _ _ KF1.2.2.2.2.1
  clear hb1
  go_wp2_with fail
  refine bodyPost_ret (v := .tuple #[.agg #[.int .i64 0, .int .u64 0, .int .u64 0], .int .i64 10]) (by simp [results, Try.results22, go_sem, *]) rfl ?_
  exact ⟨rfl, by go_grown⟩

set_option maxHeartbeats 400000 in
theorem refextend_no {A l h : Int} {i : Int} {b : Bool} (HN : Hid (∀ wx, Calls Try.prog 48 #[.agg #[.int .i64 A, .int .u64 l, .int .u64 h]] wx fun e w' => e = .returned (.bool false) ∧ Below wx.heap.size wx w')) (w : World) :
    Calls Try.prog 24 #[.agg #[.int .i64 A, .int .u64 l, .int .u64 h], .int .i64 i, .bool b] w fun e w' => e = .returned (.tuple #[.agg #[.int .i64 0, .int .u64 0, .int .u64 0], .int .i64 10]) ∧ Below w.heap.size w w' := by
  go_enter Try.func24, Try.ntmps24
  go_wp2_with fail
  refine (HN.out _).mono ?_
  rintro e w1 ⟨rfl, hb1⟩
  have hb1' := below_step (w := w) (by go_grown) hb1
  have hs1 := hb1'.size
  have KF1 : w1.cell? ⟨w.heap.size, 0, none⟩ = some (.int .i64 A) ∧ w1.cell? ⟨w.heap.size, 1, none⟩ = some (.int .u64 l) ∧ w1.cell? ⟨w.heap.size, 2, none⟩ = some (.int .u64 h) ∧ (∀ o, w1.frozen? ⟨w.heap.size, o, none⟩ = false) ∧ w1.cell? ⟨w.heap.size + 1, 0, none⟩ = some (cv w1 ⟨w.heap.size + 1, 0, none⟩) ∧ w1.cell? ⟨w.heap.size + 1, 1, none⟩ = some (cv w1 ⟨w.heap.size + 1, 1, none⟩) ∧ w1.cell? ⟨w.heap.size + 1, 2, none⟩ = some (cv w1 ⟨w.heap.size + 1, 2, none⟩) ∧ (∀ o, w1.frozen? ⟨w.heap.size + 1, o, none⟩ = false) := ⟨keep_cell hb1 (by first | (simp [go_sem]; done)), keep_cell hb1 (by first | (simp [go_sem]; done)), keep_cell hb1 (by first | (simp [go_sem]; done)), keep_frozen2 hb1 (by first | (simp [go_sem]; done)) (by first | (simp [go_sem]; done)), keep_some hb1 (by first | (simp [go_sem]; done)), keep_some hb1 (by first | (simp [go_sem]; done)), keep_some hb1 (by first | (simp [go_sem]; done)), keep_frozen2 hb1 (by first | (simp [go_sem]; done)) (by first | (simp [go_sem]; done))⟩; have KF1z0 : w.heap.size < w1.heap.size := World.block_lt_of_cell? _ _ KF1.1; have KF1z1 : w.heap.size + 1 < w1.heap.size := World.block_lt_of_cell? _ _ KF1.2.2.2.2.1
  clear hb1
  go_wp2_with fail
  refine bodyPost_ret (v := .tuple #[.agg #[.int .i64 0, .int .u64 0, .int .u64 0], .int .i64 10]) (by simp [results, Try.results24, go_sem, *]) rfl ?_
  exact ⟨rfl, by go_grown⟩

set_option maxHeartbeats 400000 in
theorem refrotate_no {A l h : Int} {i : Int} {b : Bool} (HN : Hid (∀ wx, Calls Try.prog 48 #[.agg #[.int .i64 A, .int .u64 l, .int .u64 h]] wx fun e w' => e = .returned (.bool false) ∧ Below wx.heap.size wx w')) (w : World) :
    Calls Try.prog 26 #[.agg #[.int .i64 A, .int .u64 l, .int .u64 h], .int .i64 i, .bool b] w fun e w' => e = .returned (.tuple #[.agg #[.int .i64 0, .int .u64 0, .int .u64 0], .int .i64 10]) ∧ Below w.heap.size w w' := by
  go_enter Try.func26, Try.ntmps26
  go_wp2_with fail
  refine (HN.out _).mono ?_
  rintro e w1 ⟨rfl, hb1⟩
  have hb1' := below_step (w := w) (by go_grown) hb1
  have hs1 := hb1'.size
  have KF1 : w1.cell? ⟨w.heap.size, 0, none⟩ = some (.int .i64 A) ∧ w1.cell? ⟨w.heap.size, 1, none⟩ = some (.int .u64 l) ∧ w1.cell? ⟨w.heap.size, 2, none⟩ = some (.int .u64 h) ∧ (∀ o, w1.frozen? ⟨w.heap.size, o, none⟩ = false) ∧ w1.cell? ⟨w.heap.size + 1, 0, none⟩ = some (cv w1 ⟨w.heap.size + 1, 0, none⟩) ∧ w1.cell? ⟨w.heap.size + 1, 1, none⟩ = some (cv w1 ⟨w.heap.size + 1, 1, none⟩) ∧ w1.cell? ⟨w.heap.size + 1, 2, none⟩ = some (cv w1 ⟨w.heap.size + 1, 2, none⟩) ∧ (∀ o, w1.frozen? ⟨w.heap.size + 1, o, none⟩ = false) := ⟨keep_cell hb1 (by first | (simp [go_sem]; done)), keep_cell hb1 (by first | (simp [go_sem]; done)), keep_cell hb1 (by first | (simp [go_sem]; done)), keep_frozen2 hb1 (by first | (simp [go_sem]; done)) (by first | (simp [go_sem]; done)), keep_some hb1 (by first | (simp [go_sem]; done)), keep_some hb1 (by first | (simp [go_sem]; done)), keep_some hb1 (by first | (simp [go_sem]; done)), keep_frozen2 hb1 (by first | (simp [go_sem]; done)) (by first | (simp [go_sem]; done))⟩; have KF1z0 : w.heap.size < w1.heap.size := World.block_lt_of_cell? _ _ KF1.1; have KF1z1 : w.heap.size + 1 < w1.heap.size := World.block_lt_of_cell? _ _ KF1.2.2.2.2.1
  clear hb1
  go_wp2_with fail
  refine bodyPost_ret (v := .tuple #[.agg #[.int .i64 0, .int .u64 0, .int .u64 0], .int .i64 10]) (by simp [results, Try.results26, go_sem, *]) rfl ?_
  exact ⟨rfl, by go_grown⟩

set_option maxHeartbeats 400000 in
theorem refrepeat_no {A l h : Int} {i : Int} (HN : Hid (∀ wx, Calls Try.prog 48 #[.agg #[.int .i64 A, .int .u64 l, .int .u64 h]] wx fun e w' => e = .returned (.bool false) ∧ Below wx.heap.size wx w')) (w : World) :
    Calls Try.prog 28 #[.agg #[.int .i64 A, .int .u64 l, .int .u64 h], .int .i64 i] w fun e w' => e = .returned (.tuple #[.agg #[.int .i64 0, .int .u64 0, .int .u64 0], .int .i64 10]) ∧ Below w.heap.size w w' := by
  go_enter Try.func28, Try.ntmps28
  go_wp2_with fail
  refine (HN.out _).mono ?_
  rintro e w1 ⟨rfl, hb1⟩
  have hb1' := below_step (w := w) (by go_grown) hb1
  have hs1 := hb1'.size
  have KF1 : w1.cell? ⟨w.heap.size, 0, none⟩ = some (.int .i64 A) ∧ w1.cell? ⟨w.heap.size, 1, none⟩ = some (.int .u64 l) ∧ w1.cell? ⟨w.heap.size, 2, none⟩ = some (.int .u64 h) ∧ (∀ o, w1.frozen? ⟨w.heap.size, o, none⟩ = false) ∧ w1.cell? ⟨w.heap.size + 1, 0, none⟩ = some (cv w1 ⟨w.heap.size + 1, 0, none⟩) ∧ w1.cell? ⟨w.heap.size + 1, 1, none⟩ = some (cv w1 ⟨w.heap.size + 1, 1, none⟩) ∧ w1.cell? ⟨w.heap.size + 1, 2, none⟩ = some (cv w1 ⟨w.heap.size + 1, 2, none⟩) ∧ (∀ o, w1.frozen? ⟨w.heap.size + 1, o, none⟩ = false) := ⟨keep_cell hb1 (by first | (simp [go_sem]; done)), keep_cell hb1 (by first | (simp [go_sem]; done)), keep_cell hb1 (by first | (simp [go_sem]; done)), keep_frozen2 hb1 (by first | (simp [go_sem]; done)) (by first | (simp [go_sem]; done)), keep_some hb1 (by first | (simp [go_sem]; done)), keep_some hb1 (by first | (simp [go_sem]; done)), keep_some hb1 (by first | (simp [go_sem]; done)), keep_frozen2 hb1 (by first | (simp [go_sem]; done)) (by first | (simp [go_sem]; done))⟩; have KF1z0 : w.heap.size < w1.heap.size := World.block_lt_of_cell? _ _ KF1.1; have KF1z1 : w.heap.size + 1 < w1.heap.size := World.block_lt_of_cell? _ _ KF1.2.2.2.2.1
  clear hb1
  go_wp2_with fail
  refine bodyPost_ret (v := .tuple #[.agg #[.int .i64 0, .int .u64 0, .int .u64 0], .int .i64 10]) (by simp [results, Try.results28, go_sem, *]) rfl ?_
  exact ⟨rfl, by go_grown⟩

set_option maxHeartbeats 400000 in
theorem refextract_place {W n : Nat} {i j : Int} (hp : ¬ (i < W ∧ j ≤ i ∧ 0 ≤ j)) (h1 : 1 ≤ W) (h2 : W ≤ 128) (hn : n < 2 ^ W) (w : World) :
    Calls Try.prog 22 #[.agg #[.int .i64 W, .int .u64 (LO (n)), .int .u64 (HI (n))], .int .i64 i, .int .i64 j] w fun e w' => e = .returned (.tuple #[.agg #[.int .i64 0, .int .u64 0, .int .u64 0], .int .i64 12]) ∧ Below w.heap.size w w' := by
  have hc : j < 0 ∨ (0 ≤ j ∧ i < j) ∨ (0 ≤ j ∧ j ≤ i ∧ (W : Int) ≤ i) := by omega
  clear hp
  rcases hc with hc | ⟨hc, hd⟩ | ⟨hc, hd, he⟩
  · skip
    go_enter Try.func22, Try.ntmps22
    go_wp2_with fail
    refine (refword_yes h1 h2 hn _).mono ?_
    rintro e w1 ⟨rfl, hb1⟩
    have hb1' := below_step (w := w) (by go_grown) hb1
    have hs1 := hb1'.size
    have KF1 : w1.cell? ⟨w.heap.size, 0, none⟩ = some (.int .i64 W) ∧ w1.cell? ⟨w.heap.size, 1, none⟩ = some (.int .u64 (LO (n))) ∧ w1.cell? ⟨w.heap.size, 2, none⟩ = some (.int .u64 (HI (n))) ∧ (∀ o, w1.frozen? ⟨w.heap.size, o, none⟩ = false) ∧ w1.cell? ⟨w.heap.size + 1, 0, none⟩ = some (cv w1 ⟨w.heap.size + 1, 0, none⟩) ∧ w1.cell? ⟨w.heap.size + 1, 1, none⟩ = some (cv w1 ⟨w.heap.size + 1, 1, none⟩) ∧ w1.cell? ⟨w.heap.size + 1, 2, none⟩ = some (cv w1 ⟨w.heap.size + 1, 2, none⟩) ∧ (∀ o, w1.frozen? ⟨w.heap.size + 1, o, none⟩ = false) := ⟨keep_cell hb1 (by first | (simp [go_sem]; done)), keep_cell hb1 (by first | (simp [go_sem]; done)), keep_cell hb1 (by first | (simp [go_sem]; done)), keep_frozen2 hb1 (by first | (simp [go_sem]; done)) (by first | (simp [go_sem]; done)), keep_some hb1 (by first | (simp [go_sem]; done)), keep_some hb1 (by first | (simp [go_sem]; done)), keep_some hb1 (by first | (simp [go_sem]; done)), keep_frozen2 hb1 (by first | (simp [go_sem]; done)) (by first | (simp [go_sem]; done))⟩; have KF1z0 : w.heap.size < w1.heap.size := World.block_lt_of_cell? _ _ KF1.1; have KF1z1 : w.heap.size + 1 < w1.heap.size := World.block_lt_of_cell? _ _ KF1.2.2.2.2.1
    clear hb1
    go_wp2_with fail
    refine bodyPost_ret (v := .tuple #[.agg #[.int .i64 0, .int .u64 0, .int .u64 0], .int .i64 12]) (by simp [results, Try.results22, go_sem, *]) rfl ?_
    exact ⟨rfl, by go_grown⟩
  · skip
    go_enter Try.func22, Try.ntmps22
    go_wp2_with fail
    refine (refword_yes h1 h2 hn _).mono ?_
    rintro e w1 ⟨rfl, hb1⟩
    have hb1' := below_step (w := w) (by go_grown) hb1
    have hs1 := hb1'.size
    have KF1 : w1.cell? ⟨w.heap.size, 0, none⟩ = some (.int .i64 W) ∧ w1.cell? ⟨w.heap.size, 1, none⟩ = some (.int .u64 (LO (n))) ∧ w1.cell? ⟨w.heap.size, 2, none⟩ = some (.int .u64 (HI (n))) ∧ (∀ o, w1.frozen? ⟨w.heap.size, o, none⟩ = false) ∧ w1.cell? ⟨w.heap.size + 1, 0, none⟩ = some (cv w1 ⟨w.heap.size + 1, 0, none⟩) ∧ w1.cell? ⟨w.heap.size + 1, 1, none⟩ = some (cv w1 ⟨w.heap.size + 1, 1, none⟩) ∧ w1.cell? ⟨w.heap.size + 1, 2, none⟩ = some (cv w1 ⟨w.heap.size + 1, 2, none⟩) ∧ (∀ o, w1.frozen? ⟨w.heap.size + 1, o, none⟩ = false) := ⟨keep_cell hb1 (by first | (simp [go_sem]; done)), keep_cell hb1 (by first | (simp [go_sem]; done)), keep_cell hb1 (by first | (simp [go_sem]; done)), keep_frozen2 hb1 (by first | (simp [go_sem]; done)) (by first | (simp [go_sem]; done)), keep_some hb1 (by first | (simp [go_sem]; done)), keep_some hb1 (by first | (simp [go_sem]; done)), keep_some hb1 (by first | (simp [go_sem]; done)), keep_frozen2 hb1 (by first | (simp [go_sem]; done)) (by first | (simp [go_sem]; done))⟩; have KF1z0 : w.heap.size < w1.heap.size := World.block_lt_of_cell? _ _ KF1.1; have KF1z1 : w.heap.size + 1 < w1.heap.size := World.block_lt_of_cell? _ _ KF1.2.2.2.2.1
    clear hb1
    go_wp2_with fail
    refine bodyPost_ret (v := .tuple #[.agg #[.int .i64 0, .int .u64 0, .int .u64 0], .int .i64 12]) (by simp [results, Try.results22, go_sem, *]) rfl ?_
    exact ⟨rfl, by go_grown⟩
  · skip
    go_enter Try.func22, Try.ntmps22
    go_wp2_with fail
    refine (refword_yes h1 h2 hn _).mono ?_
    rintro e w1 ⟨rfl, hb1⟩
    have hb1' := below_step (w := w) (by go_grown) hb1
    have hs1 := hb1'.size
    have KF1 : w1.cell? ⟨w.heap.size, 0, none⟩ = some (.int .i64 W) ∧ w1.cell? ⟨w.heap.size, 1, none⟩ = some (.int .u64 (LO (n))) ∧ w1.cell? ⟨w.heap.size, 2, none⟩ = some (.int .u64 (HI (n))) ∧ (∀ o, w1.frozen? ⟨w.heap.size, o, none⟩ = false) ∧ w1.cell? ⟨w.heap.size + 1, 0, none⟩ = some (cv w1 ⟨w.heap.size + 1, 0, none⟩) ∧ w1.cell? ⟨w.heap.size + 1, 1, none⟩ = some (cv w1 ⟨w.heap.size + 1, 1, none⟩) ∧ w1.cell? ⟨w.heap.size + 1, 2, none⟩ = some (cv w1 ⟨w.heap.size + 1, 2, none⟩) ∧ (∀ o, w1.frozen? ⟨w.heap.size + 1, o, none⟩ = false) := ⟨keep_cell hb1 (by first | (simp [go_sem]; done)), keep_cell hb1 (by first | (simp [go_sem]; done)), keep_cell hb1 (by first | (simp [go_sem]; done)), keep_frozen2 hb1 (by first | (simp [go_sem]; done)) (by first | (simp [go_sem]; done)), keep_some hb1 (by first | (simp [go_sem]; done)), keep_some hb1 (by first | (simp [go_sem]; done)), keep_some hb1 (by first | (simp [go_sem]; done)), keep_frozen2 hb1 (by first | (simp [go_sem]; done)) (by first | (simp [go_sem]; done))⟩; have KF1z0 : w.heap.size < w1.heap.size := World.block_lt_of_cell? _ _ KF1.1; have KF1z1 : w.heap.size + 1 < w1.heap.size := World.block_lt_of_cell? _ _ KF1.2.2.2.2.1
    clear hb1
    go_wp2_with fail
    refine bodyPost_ret (v := .tuple #[.agg #[.int .i64 0, .int .u64 0, .int .u64 0], .int .i64 12]) (by simp [results, Try.results22, go_sem, *]) rfl ?_
    exact ⟨rfl, by go_grown⟩

set_option maxHeartbeats 400000 in
theorem refextend_neg {W n : Nat} {i : Int} {b : Bool} (hp : i < 0) (h1 : 1 ≤ W) (h2 : W ≤ 128) (hn : n < 2 ^ W) (w : World) :
    Calls Try.prog 24 #[.agg #[.int .i64 W, .int .u64 (LO (n)), .int .u64 (HI (n))], .int .i64 i, .bool b] w fun e w' => e = .returned (.tuple #[.agg #[.int .i64 0, .int .u64 0, .int .u64 0], .int .i64 12]) ∧ Below w.heap.size w w' := by
  go_enter Try.func24, Try.ntmps24
  go_wp2_with fail
  refine (refword_yes h1 h2 hn _).mono ?_
  rintro e w1 ⟨rfl, hb1⟩
  have hb1' := below_step (w := w) (by go_grown) hb1
  have hs1 := hb1'.size
  have KF1 : w1.cell? ⟨w.heap.size, 0, none⟩ = some (.int .i64 W) ∧ w1.cell? ⟨w.heap.size, 1, none⟩ = some (.int .u64 (LO (n))) ∧ w1.cell? ⟨w.heap.size, 2, none⟩ = some (.int .u64 (HI (n))) ∧ (∀ o, w1.frozen? ⟨w.heap.size, o, none⟩ = false) ∧ w1.cell? ⟨w.heap.size + 1, 0, none⟩ = some (cv w1 ⟨w.heap.size + 1, 0, none⟩) ∧ w1.cell? ⟨w.heap.size + 1, 1, none⟩ = some (cv w1 ⟨w.heap.size + 1, 1, none⟩) ∧ w1.cell? ⟨w.heap.size + 1, 2, none⟩ = some (cv w1 ⟨w.heap.size + 1, 2, none⟩) ∧ (∀ o, w1.frozen? ⟨w.heap.size + 1, o, none⟩ = false) := ⟨keep_cell hb1 (by first | (simp [go_sem]; done)), keep_cell hb1 (by first | (simp [go_sem]; done)), keep_cell hb1 (by first | (simp [go_sem]; done)), keep_frozen2 hb1 (by first | (simp [go_sem]; done)) (by first | (simp [go_sem]; done)), keep_some hb1 (by first | (simp [go_sem]; done)), keep_some hb1 (by first | (simp [go_sem]; done)), keep_some hb1 (by first | (simp [go_sem]; done)), keep_frozen2 hb1 (by first | (simp [go_sem]; done)) (by first | (simp [go_sem]; done))⟩; have KF1z0 : w.heap.size < w1.heap.size := World.block_lt_of_cell? _ _ KF1.1; have KF1z1 : w.heap.size + 1 < w1.heap.size := World.block_lt_of_cell? _ _ KF1.2.2.2.2.1
  clear hb1
  go_wp2_with fail
  refine bodyPost_ret (v := .tuple #[.agg #[.int .i64 0, .int .u64 0, .int .u64 0], .int .i64 12]) (by simp [results, Try.results24, go_sem, *]) rfl ?_
  exact ⟨rfl, by go_grown⟩

set_option maxHeartbeats 400000 in
theorem refextend_wide {W n : Nat} {i : Int} {b : Bool} (hp : 0 ≤ i) (hq : 128 - (W : Int) < i) (h1 : 1 ≤ W) (h2 : W ≤ 128) (hn : n < 2 ^ W) (w : World) :
    Calls Try.prog 24 #[.agg #[.int .i64 W, .int .u64 (LO (n)), .int .u64 (HI (n))], .int .i64 i, .bool b] w fun e w' => e = .returned (.tuple #[.agg #[.int .i64 0, .int .u64 0, .int .u64 0], .int .i64 10]) ∧ Below w.heap.size w w' := by
  go_enter Try.func24, Try.ntmps24
  go_wp2_with fail
  refine (refword_yes h1 h2 hn _).mono ?_
  rintro e w1 ⟨rfl, hb1⟩
  have hb1' := below_step (w := w) (by go_grown) hb1
  have hs1 := hb1'.size
  have KF1 : w1.cell? ⟨w.heap.size, 0, none⟩ = some (.int .i64 W) ∧ w1.cell? ⟨w.heap.size, 1, none⟩ = some (.int .u64 (LO (n))) ∧ w1.cell? ⟨w.heap.size, 2, none⟩ = some (.int .u64 (HI (n))) ∧ (∀ o, w1.frozen? ⟨w.heap.size, o, none⟩ = false) ∧ w1.cell? ⟨w.heap.size + 1, 0, none⟩ = some (cv w1 ⟨w.heap.size + 1, 0, none⟩) ∧ w1.cell? ⟨w.heap.size + 1, 1, none⟩ = some (cv w1 ⟨w.heap.size + 1, 1, none⟩) ∧ w1.cell? ⟨w.heap.size + 1, 2, none⟩ = some (cv w1 ⟨w.heap.size + 1, 2, none⟩) ∧ (∀ o, w1.frozen? ⟨w.heap.size + 1, o, none⟩ = false) := ⟨keep_cell hb1 (by first | (simp [go_sem]; done)), keep_cell hb1 (by first | (simp [go_sem]; done)), keep_cell hb1 (by first | (simp [go_sem]; done)), keep_frozen2 hb1 (by first | (simp [go_sem]; done)) (by first | (simp [go_sem]; done)), keep_some hb1 (by first | (simp [go_sem]; done)), keep_some hb1 (by first | (simp [go_sem]; done)), keep_some hb1 (by first | (simp [go_sem]; done)), keep_frozen2 hb1 (by first | (simp [go_sem]; done)) (by first | (simp [go_sem]; done))⟩; have KF1z0 : w.heap.size < w1.heap.size := World.block_lt_of_cell? _ _ KF1.1; have KF1z1 : w.heap.size + 1 < w1.heap.size := World.block_lt_of_cell? _ _ KF1.2.2.2.2.1
  clear hb1
  go_wp2_with fail
  refine bodyPost_ret (v := .tuple #[.agg #[.int .i64 0, .int .u64 0, .int .u64 0], .int .i64 10]) (by simp [results, Try.results24, go_sem, *]) rfl ?_
  exact ⟨rfl, by go_grown⟩

set_option maxHeartbeats 400000 in
theorem refrotate_neg {W n : Nat} {i : Int} {b : Bool} (hp : i < 0) (h1 : 1 ≤ W) (h2 : W ≤ 128) (hn : n < 2 ^ W) (w : World) :
    Calls Try.prog 26 #[.agg #[.int .i64 W, .int .u64 (LO (n)), .int .u64 (HI (n))], .int .i64 i, .bool b] w fun e w' => e = .returned (.tuple #[.agg #[.int .i64 0, .int .u64 0, .int .u64 0], .int .i64 12]) ∧ Below w.heap.size w w' := by
  go_enter Try.func26, Try.ntmps26
  go_wp2_with fail
  refine (refword_yes h1 h2 hn _).mono ?_
  rintro e w1 ⟨rfl, hb1⟩
  have hb1' := below_step (w := w) (by go_grown) hb1
  have hs1 := hb1'.size
  have KF1 : w1.cell? ⟨w.heap.size, 0, none⟩ = some (.int .i64 W) ∧ w1.cell? ⟨w.heap.size, 1, none⟩ = some (.int .u64 (LO (n))) ∧ w1.cell? ⟨w.heap.size, 2, none⟩ = some (.int .u64 (HI (n))) ∧ (∀ o, w1.frozen? ⟨w.heap.size, o, none⟩ = false) ∧ w1.cell? ⟨w.heap.size + 1, 0, none⟩ = some (cv w1 ⟨w.heap.size + 1, 0, none⟩) ∧ w1.cell? ⟨w.heap.size + 1, 1, none⟩ = some (cv w1 ⟨w.heap.size + 1, 1, none⟩) ∧ w1.cell? ⟨w.heap.size + 1, 2, none⟩ = some (cv w1 ⟨w.heap.size + 1, 2, none⟩) ∧ (∀ o, w1.frozen? ⟨w.heap.size + 1, o, none⟩ = false) := ⟨keep_cell hb1 (by first | (simp [go_sem]; done)), keep_cell hb1 (by first | (simp [go_sem]; done)), keep_cell hb1 (by first | (simp [go_sem]; done)), keep_frozen2 hb1 (by first | (simp [go_sem]; done)) (by first | (simp [go_sem]; done)), keep_some hb1 (by first | (simp [go_sem]; done)), keep_some hb1 (by first | (simp [go_sem]; done)), keep_some hb1 (by first | (simp [go_sem]; done)), keep_frozen2 hb1 (by first | (simp [go_sem]; done)) (by first | (simp [go_sem]; done))⟩; have KF1z0 : w.heap.size < w1.heap.size := World.block_lt_of_cell? _ _ KF1.1; have KF1z1 : w.heap.size + 1 < w1.heap.size := World.block_lt_of_cell? _ _ KF1.2.2.2.2.1
  clear hb1
  go_wp2_with fail
  refine bodyPost_ret (v := .tuple #[.agg #[.int .i64 0, .int .u64 0, .int .u64 0], .int .i64 12]) (by simp [results, Try.results26, go_sem, *]) rfl ?_
  exact ⟨rfl, by go_grown⟩

set_option maxHeartbeats 400000 in
theorem refrepeat_low {W n : Nat} {i : Int} (hp : i < 1) (h1 : 1 ≤ W) (h2 : W ≤ 128) (hn : n < 2 ^ W) (w : World) :
    Calls Try.prog 28 #[.agg #[.int .i64 W, .int .u64 (LO (n)), .int .u64 (HI (n))], .int .i64 i] w fun e w' => e = .returned (.tuple #[.agg #[.int .i64 0, .int .u64 0, .int .u64 0], .int .i64 12]) ∧ Below w.heap.size w w' := by
  go_enter Try.func28, Try.ntmps28
  go_wp2_with fail
  refine (refword_yes h1 h2 hn _).mono ?_
  rintro e w1 ⟨rfl, hb1⟩
  have hb1' := below_step (w := w) (by go_grown) hb1
  have hs1 := hb1'.size
  have KF1 : w1.cell? ⟨w.heap.size, 0, none⟩ = some (.int .i64 W) ∧ w1.cell? ⟨w.heap.size, 1, none⟩ = some (.int .u64 (LO (n))) ∧ w1.cell? ⟨w.heap.size, 2, none⟩ = some (.int .u64 (HI (n))) ∧ (∀ o, w1.frozen? ⟨w.heap.size, o, none⟩ = false) ∧ w1.cell? ⟨w.heap.size + 1, 0, none⟩ = some (cv w1 ⟨w.heap.size + 1, 0, none⟩) ∧ w1.cell? ⟨w.heap.size + 1, 1, none⟩ = some (cv w1 ⟨w.heap.size + 1, 1, none⟩) ∧ w1.cell? ⟨w.heap.size + 1, 2, none⟩ = some (cv w1 ⟨w.heap.size + 1, 2, none⟩) ∧ (∀ o, w1.frozen? ⟨w.heap.size + 1, o, none⟩ = false) := ⟨keep_cell hb1 (by first | (simp [go_sem]; done)), keep_cell hb1 (by first | (simp [go_sem]; done)), keep_cell hb1 (by first | (simp [go_sem]; done)), keep_frozen2 hb1 (by first | (simp [go_sem]; done)) (by first | (simp [go_sem]; done)), keep_some hb1 (by first | (simp [go_sem]; done)), keep_some hb1 (by first | (simp [go_sem]; done)), keep_some hb1 (by first | (simp [go_sem]; done)), keep_frozen2 hb1 (by first | (simp [go_sem]; done)) (by first | (simp [go_sem]; done))⟩; have KF1z0 : w.heap.size < w1.heap.size := World.block_lt_of_cell? _ _ KF1.1; have KF1z1 : w.heap.size + 1 < w1.heap.size := World.block_lt_of_cell? _ _ KF1.2.2.2.2.1
  clear hb1
  go_wp2_with fail
  refine bodyPost_ret (v := .tuple #[.agg #[.int .i64 0, .int .u64 0, .int .u64 0], .int .i64 12]) (by simp [results, Try.results28, go_sem, *]) rfl ?_
  exact ⟨rfl, by go_grown⟩

set_option maxHeartbeats 400000 in
theorem refrepeat_wide {W n : Nat} {i : Int} (hp : 1 ≤ i) (hq : ((128 / W : Nat) : Int) < i) (h1 : 1 ≤ W) (h2 : W ≤ 128) (hn : n < 2 ^ W) (w : World) :
    Calls Try.prog 28 #[.agg #[.int .i64 W, .int .u64 (LO (n)), .int .u64 (HI (n))], .int .i64 i] w fun e w' => e = .returned (.tuple #[.agg #[.int .i64 0, .int .u64 0, .int .u64 0], .int .i64 10]) ∧ Below w.heap.size w w' := by
  have hq2 : (128 : Int) / (W : Int) < i := hq
  clear hq
  go_enter Try.func28, Try.ntmps28
  go_wp2_with fail
  refine (refword_yes h1 h2 hn _).mono ?_
  rintro e w1 ⟨rfl, hb1⟩
  have hb1' := below_step (w := w) (by go_grown) hb1
  have hs1 := hb1'.size
  have KF1 : w1.cell? ⟨w.heap.size, 0, none⟩ = some (.int .i64 W) ∧ w1.cell? ⟨w.heap.size, 1, none⟩ = some (.int .u64 (LO (n))) ∧ w1.cell? ⟨w.heap.size, 2, none⟩ = some (.int .u64 (HI (n))) ∧ (∀ o, w1.frozen? ⟨w.heap.size, o, none⟩ = false) ∧ w1.cell? ⟨w.heap.size + 1, 0, none⟩ = some (cv w1 ⟨w.heap.size + 1, 0, none⟩) ∧ w1.cell? ⟨w.heap.size + 1, 1, none⟩ = some (cv w1 ⟨w.heap.size + 1, 1, none⟩) ∧ w1.cell? ⟨w.heap.size + 1, 2, none⟩ = some (cv w1 ⟨w.heap.size + 1, 2, none⟩) ∧ (∀ o, w1.frozen? ⟨w.heap.size + 1, o, none⟩ = false) := ⟨keep_cell hb1 (by first | (simp [go_sem]; done)), keep_cell hb1 (by first | (simp [go_sem]; done)), keep_cell hb1 (by first | (simp [go_sem]; done)), keep_frozen2 hb1 (by first | (simp [go_sem]; done)) (by first | (simp [go_sem]; done)), keep_some hb1 (by first | (simp [go_sem]; done)), keep_some hb1 (by first | (simp [go_sem]; done)), keep_some hb1 (by first | (simp [go_sem]; done)), keep_frozen2 hb1 (by first | (simp [go_sem]; done)) (by first | (simp [go_sem]; done))⟩; have KF1z0 : w.heap.size < w1.heap.size := World.block_lt_of_cell? _ _ KF1.1; have KF1z1 : w.heap.size + 1 < w1.heap.size := World.block_lt_of_cell? _ _ KF1.2.2.2.2.1
  clear hb1
  go_wp2_with fail
  refine bodyPost_ret (v := .tuple #[.agg #[.int .i64 0, .int .u64 0, .int .u64 0], .int .i64 10]) (by simp [results, Try.results28, go_sem, *]) rfl ?_
  exact ⟨rfl, by go_grown⟩
end Go.Proofs.Ytjcmnhipiejnpaa
