/- Contracts: repetition; operators on four bits; texts that the examples name; refusals that they name. -/
import Derived.Test.YtohfjpahdoodgaaGreatDoorMg46
import Derived.Test.YtohfjpahdoodgaaGreatDoorMg44
import Derived.Test.YtohfjpahdoodgaaGreatDoorU1
namespace Go.Proofs.YtohfjpahdoodgaaGreatDoor.Ag
open Go.RowKit
set_option linter.unusedSimpArgs false
set_option linter.unusedVariables false

theorem cell_put {w : World} {a : Addr} {v : Value} (h : (w.cell? a).isSome = true) : (w.setCell a v).cell? a = some v := by
  obtain ⟨u, hu⟩ := Option.isSome_iff_exists.1 h
  exact World.cell?_setCell_same _ _ _ hu
/-- The width of k words of W bits. -/
def wk (W k : Nat) : Nat := W * k
/-- k words n of V bits above one another. -/
def rep (V n : Nat) : Nat → Nat
  | 0 => 0
  | k + 1 => cat (rep V n k) V n
theorem rep_lt {V n : Nat} (h : n < 2 ^ V) : ∀ k, rep V n k < 2 ^ (V * k)
  | 0 => by simp [rep]
  | k + 1 => by
    have h1 := cat_lt (rep_lt h k) h
    rw [show V * k + V = V * (k + 1) from (Nat.mul_succ V k).symm] at h1
    exact h1

theorem eq_16 (w : World) : (binOp .eql 47 (.agg #[.int .i64 4, .int .u64 16, .int .u64 0]) (.agg #[.int .i64 4, .int .u64 (LO 0), .int .u64 (HI 0)])).run Tryz.prog w = .ok (.bool false) w := by
  have h : LO 0 = 0 := by decide
  rw [h]
  simp [go_sem]

set_option maxHeartbeats 400000 in
theorem prefix_b (w : World) :
    Calls Tryz.prog 69 #[.string ⟨#[35, 120, 102, 70]⟩, .string ⟨#[35, 98]⟩] w fun e w' => e = .returned (.bool false) ∧ w' = w := by
  go_enter Tryz.func69, Tryz.ntmps69
  go_wp2
  go_ret
  exact ⟨ret_bool (by decide +kernel), rfl⟩

set_option maxHeartbeats 400000 in
theorem prefix_x (w : World) :
    Calls Tryz.prog 69 #[.string ⟨#[35, 120, 102, 70]⟩, .string ⟨#[35, 120]⟩] w fun e w' => e = .returned (.bool true) ∧ w' = w := by
  go_enter Tryz.func69, Tryz.ntmps69
  go_wp2
  go_ret
  exact ⟨ret_bool (by decide +kernel), rfl⟩

end Go.Proofs.YtohfjpahdoodgaaGreatDoor.Ag

/- Contracts: what is no right word; numbers that are out of place. -/
namespace Go.Proofs.YtohfjpahdoodgaaGreatDoor.Ag
open Go.RowKit
set_option linter.unusedSimpArgs false
set_option linter.unusedVariables false

/-- A right word. -/
def RW (A : Int) (N : Nat) : Prop := 1 ≤ A ∧ A ≤ 128 ∧ N < 2 ^ A.toNat
theorem RW.wd {A : Int} {N : Nat} (h : RW A N) : Wd A (LO N) (HI N) A.toNat N := ⟨by have := h.1; omega, by have := h.2.1; omega, h.2.2, by have := h.1; omega, rfl, rfl⟩

end Go.Proofs.YtohfjpahdoodgaaGreatDoor.Ag

/- Contracts: the document's right words; what it says of wrong ones. -/
namespace Go.Proofs.YtohfjpahdoodgaaGreatDoor.Ag
open Go.RowKit
set_option linter.unusedSimpArgs false
set_option linter.unusedVariables false

theorem bs_cells {w : World} {base g W n : Nat} (h : Bs w base (.slice (some ⟨g, 0, none⟩) W W) (bl W n)) : ∀ j, j < W → w.cell? ⟨g, 0 + j, none⟩ = some (.bool (n.testBit j)) := fun j hj => by
  rw [Nat.zero_add]; exact Bs.cell h (bl_len W n).symm (bl_get hj)

set_option maxHeartbeats 400000 in
theorem refright_out {A : Int} {N : Nat} (h : A < 0 ∨ 128 < A) (w : World) :
    Calls Tryz.prog 72 #[.agg #[.int .i64 A, .int .u64 (LO (N)), .int .u64 (HI (N))]] w fun e w' => e = .returned (.bool false) ∧ Below w.heap.size w w' := by
  by_cases h0 : A < 0
  · go_enter Tryz.func72, Tryz.ntmps72
    go_wp2_with fail
    go_ret
    exact ⟨rfl, by go_grown⟩
  · have h1 : 128 < A := by omega
    go_enter Tryz.func72, Tryz.ntmps72
    go_wp2_with fail
    go_ret
    exact ⟨rfl, by go_grown⟩

set_option maxHeartbeats 400000 in
theorem refright_0 {N : Nat} (w : World) :
    Calls Tryz.prog 72 #[.agg #[.int .i64 0, .int .u64 (LO (N)), .int .u64 (HI (N))]] w fun e w' => e = .returned (.bool (decide (LO N ≤ 1) && (HI N == 0))) ∧ Below w.heap.size w w' := by
  by_cases h0 : LO N ≤ 1
  · by_cases h1 : HI N = 0
    · go_enter Tryz.func72, Tryz.ntmps72
      go_wp2_with fail
      go_ret
      exact ⟨by simp [h0, h1], by go_grown⟩
    · go_enter Tryz.func72, Tryz.ntmps72
      go_wp2_with fail
      go_ret
      exact ⟨by simp [h0, h1], by go_grown⟩
  · have hd : decide (LO N ≤ 1) = false := by simp; omega
    have HE : Hid ((decide (LO N ≤ 1) && (HI N == 0)) = false) := by unfold Hid; rw [hd]; rfl
    rw [HE.out]
    clear h0
    go_enter Tryz.func72, Tryz.ntmps72
    go_wp2_with fail
    go_ret
    exact ⟨rfl, by go_grown⟩

set_option maxHeartbeats 800000 in
theorem refright_w {W N r : Nat} {c : Bool} (h1 : 1 ≤ W) (h2 : W ≤ 128) (hN : N < 2 ^ 128) (hr : N % 2 ^ W = r) (hc : eqB r N = c) (w : World) :
    Calls Tryz.prog 72 #[.agg #[.int .i64 W, .int .u64 (LO (N)), .int .u64 (HI (N))]] w fun e w' => e = .returned (.bool c) ∧ Below w.heap.size w w' := by
  have hd : decide ((W : Int) < 0) = false := by simp only [decide_eq_false_iff_not]; omega
  have hd2 : decide ((128 : Int) < W) = false := by simp only [decide_eq_false_iff_not]; omega
  have hd3 : ((W : Int) == 0) = false := by simp; omega
  have HW : Hid (∀ (g : Nat) (wx : World), (∀ j, j < W → wx.cell? ⟨g, 0 + j, none⟩ = some (.bool (N.testBit j))) → g < wx.heap.size → Calls Tryz.prog 50 #[.slice (some ⟨g, 0, none⟩) W W] wx fun e w' => e = .returned (.agg #[.int .i64 W, .int .u64 (LO (r)), .int .u64 (HI (r))]) ∧ Below wx.heap.size wx w') := fun g wx hx hg => by rw [← hr]; exact word_at h2 hN wx hx hg
  clear hr
  have hqe := eq_w
  go_enter Tryz.func72, Tryz.ntmps72
  go_wp2_with fail
  go_region_held3 (fun x => x.cell? ⟨w.heap.size, 0, none⟩ = some (.int .i64 W) ∧ x.cell? ⟨w.heap.size, 1, none⟩ = some (.int .u64 (LO (N))) ∧ x.cell? ⟨w.heap.size, 2, none⟩ = some (.int .u64 (HI (N))) ∧ Below w.heap.size w x)
    ((refine ⟨?_, ?_, ?_, ?_⟩ <;> first | (simp [go_sem]; done) | (refine cv_some ?_; simp [go_sem]; done) | (simp [go_sem, KFr, KFrz0]; done) | (refine cv_some ?_; simp [go_sem, KFr, KFrz0]; done) | (refine put_below ?_ ?_ <;> first | assumption | omega) | (have hH := ‹_ ∧ _ ∧ _ ∧ _›; exact put_below hH.2.2.2 (by omega)) | go_grown))
    ((first | (go_at_call 48; refine (bits_own h2 hN rfl rfl rfl _).mono ?_; rintro e wq ⟨g, rfl, hB, hb⟩; have hb' := below_step (w := w) (by go_grown) hb; have hs := hb'.size; have KFr : wq.cell? ⟨w.heap.size, 0, none⟩ = some (.int .i64 W) ∧ wq.cell? ⟨w.heap.size, 1, none⟩ = some (.int .u64 (LO (N))) ∧ wq.cell? ⟨w.heap.size, 2, none⟩ = some (.int .u64 (HI (N))) := ⟨keep_cell hb (by first | (simp [go_sem]; done) | (simp [go_sem, KFr]; done) | (simp [go_sem, KFr, World.cell?_alloc_some]; done) | (simp [go_sem, KFr, frozen?_alloc_cells]; done)), keep_cell hb (by first | (simp [go_sem]; done) | (simp [go_sem, KFr]; done) | (simp [go_sem, KFr, World.cell?_alloc_some]; done) | (simp [go_sem, KFr, frozen?_alloc_cells]; done)), keep_cell hb (by first | (simp [go_sem]; done) | (simp [go_sem, KFr]; done) | (simp [go_sem, KFr, World.cell?_alloc_some]; done) | (simp [go_sem, KFr, frozen?_alloc_cells]; done))⟩; have KFrz0 : w.heap.size < wq.heap.size := World.block_lt_of_cell? _ _ KFr.1; have HBs : Hid (Bs wq _ (.slice (some ⟨g, 0, none⟩) W W) (bl W N)) := hB; clear hB; clear hb) | (go_at_call 50; refine (HW.out _ _ (bs_cells HBs.out) (Bs.lt HBs.out).2).mono ?_; rintro e wq ⟨rfl, hb⟩; have hb' := below_step (w := w) (by go_grown) hb; have hs := hb'.size; have KFr : wq.cell? ⟨w.heap.size, 0, none⟩ = some (.int .i64 W) ∧ wq.cell? ⟨w.heap.size, 1, none⟩ = some (.int .u64 (LO (N))) ∧ wq.cell? ⟨w.heap.size, 2, none⟩ = some (.int .u64 (HI (N))) := ⟨keep_cell hb (by first | (simp [go_sem]; done) | (simp [go_sem, KFr]; done) | (simp [go_sem, KFr, World.cell?_alloc_some]; done) | (simp [go_sem, KFr, frozen?_alloc_cells]; done)), keep_cell hb (by first | (simp [go_sem]; done) | (simp [go_sem, KFr]; done) | (simp [go_sem, KFr, World.cell?_alloc_some]; done) | (simp [go_sem, KFr, frozen?_alloc_cells]; done)), keep_cell hb (by first | (simp [go_sem]; done) | (simp [go_sem, KFr]; done) | (simp [go_sem, KFr, World.cell?_alloc_some]; done) | (simp [go_sem, KFr, frozen?_alloc_cells]; done))⟩; have KFrz0 : w.heap.size < wq.heap.size := World.block_lt_of_cell? _ _ KFr.1; clear hb)))
  obtain ⟨-, -, -, hBq⟩ := ‹_ ∧ _ ∧ _ ∧ _›
  go_wp2_with fail
  go_ret
  exact ⟨rfl, by go_grown⟩

set_option maxHeartbeats 400000 in
theorem refword_yes {W n : Nat} (h1 : 1 ≤ W) (h2 : W ≤ 128) (hn : n < 2 ^ W) (w : World) :
    Calls Tryz.prog 47 #[.agg #[.int .i64 W, .int .u64 (LO (n)), .int .u64 (HI (n))]] w fun e w' => e = .returned (.bool true) ∧ Below w.heap.size w w' := by
  have HR : Hid (∀ wx, Calls Tryz.prog 72 #[.agg #[.int .i64 W, .int .u64 (LO (n)), .int .u64 (HI (n))]] wx fun e w' => e = .returned (.bool true) ∧ Below wx.heap.size wx w') := fun wx => refright_w h1 h2 (Nat.lt_of_lt_of_le hn (pow_le_128 h2)) (Nat.mod_eq_of_lt hn) (eqB_yes rfl) wx
  have hd3 : decide (0 < W) = true := by simp; omega
  go_enter Tryz.func47, Tryz.ntmps47
  go_wp2_with fail
  refine (HR.out _).mono ?_
  rintro e w1 ⟨rfl, hb1⟩
  have hb1' := below_step (w := w) (by go_grown) hb1
  have hs1 := hb1'.size
  have hz1_0 : w.heap.size < w1.heap.size := by have := hb1.size; (try simp at this); omega
  obtain ⟨hc1, hf1⟩ := bcell hb1
  go_wp2_with fail
  go_ret
  exact ⟨rfl, by go_grown⟩

set_option maxHeartbeats 400000 in
theorem refword_f {A : Int} {N : Nat} (HR : Hid (∀ wx, Calls Tryz.prog 72 #[.agg #[.int .i64 A, .int .u64 (LO (N)), .int .u64 (HI (N))]] wx fun e w' => e = .returned (.bool false) ∧ Below wx.heap.size wx w')) (w : World) :
    Calls Tryz.prog 47 #[.agg #[.int .i64 A, .int .u64 (LO (N)), .int .u64 (HI (N))]] w fun e w' => e = .returned (.bool false) ∧ Below w.heap.size w w' := by
  go_enter Tryz.func47, Tryz.ntmps47
  go_wp2_with fail
  refine (HR.out _).mono ?_
  rintro e w1 ⟨rfl, hb1⟩
  have hb1' := below_step (w := w) (by go_grown) hb1
  have hs1 := hb1'.size
  have hz1_0 : w.heap.size < w1.heap.size := by have := hb1.size; (try simp at this); omega
  obtain ⟨hc1, hf1⟩ := bcell hb1
  go_wp2_with fail
  go_ret
  exact ⟨rfl, by go_grown⟩

set_option maxHeartbeats 400000 in
theorem refword_0 {N : Nat} (w : World) :
    Calls Tryz.prog 47 #[.agg #[.int .i64 0, .int .u64 (LO (N)), .int .u64 (HI (N))]] w fun e w' => e = .returned (.bool false) ∧ Below w.heap.size w w' := by
  obtain ⟨c, hc⟩ : ∃ c : Bool, (decide (LO N ≤ 1) && (HI N == 0)) = c := ⟨_, rfl⟩
  have HR : Hid (∀ wx, Calls Tryz.prog 72 #[.agg #[.int .i64 0, .int .u64 (LO (N)), .int .u64 (HI (N))]] wx fun e w' => e = .returned (.bool c) ∧ Below wx.heap.size wx w') := fun wx => by rw [← hc]; exact refright_0 wx
  clear hc
  cases c
  · go_enter Tryz.func47, Tryz.ntmps47
    go_wp2_with fail
    refine (HR.out _).mono ?_
    rintro e w1 ⟨rfl, hb1⟩
    have hb1' := below_step (w := w) (by go_grown) hb1
    have hs1 := hb1'.size
    have hz1_0 : w.heap.size < w1.heap.size := by have := hb1.size; (try simp at this); omega
    obtain ⟨hc1, hf1⟩ := bcell hb1
    go_wp2_with fail
    go_ret
    exact ⟨rfl, by go_grown⟩
  · go_enter Tryz.func47, Tryz.ntmps47
    go_wp2_with fail
    refine (HR.out _).mono ?_
    rintro e w1 ⟨rfl, hb1⟩
    have hb1' := below_step (w := w) (by go_grown) hb1
    have hs1 := hb1'.size
    have hz1_0 : w.heap.size < w1.heap.size := by have := hb1.size; (try simp at this); omega
    obtain ⟨hc1, hf1⟩ := bcell hb1
    go_wp2_with fail
    go_ret
    exact ⟨rfl, by go_grown⟩

theorem refword_no {A : Int} {N : Nat} (hN : N < 2 ^ 128) (h : ¬ RW A N) (w : World) :
    Calls Tryz.prog 47 #[.agg #[.int .i64 A, .int .u64 (LO (N)), .int .u64 (HI (N))]] w fun e w' => e = .returned (.bool false) ∧ Below w.heap.size w w' := by
  by_cases h0 : A = 0
  · subst h0; exact refword_0 w
  · refine refword_f (fun wx => ?_) w
    by_cases ho : A < 0 ∨ 128 < A
    · exact refright_out ho wx
    · obtain ⟨W, rfl⟩ : ∃ W : Nat, A = W := ⟨A.toNat, by omega⟩
      refine refright_w (by omega) (by omega) hN rfl (eqB_no fun e => h ⟨by omega, by omega, ?_⟩) wx
      rw [← e]; simpa using mod_lt_W _ _

end Go.Proofs.YtohfjpahdoodgaaGreatDoor.Ag
