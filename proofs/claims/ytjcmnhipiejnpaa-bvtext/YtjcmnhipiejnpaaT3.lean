/- Contracts: the text of a word, as the document writes it. -/
import Derived.Test.YtjcmnhipiejnpaaT2
namespace Go.Proofs.Ytjcmnhipiejnpaa
open Go.RowKit
set_option linter.unusedSimpArgs false
set_option linter.unusedVariables false

theorem str_put (l : List UInt8) (c : UInt8) : (⟨l.toArray⟩ : ByteArray) ++ (⟨#[c]⟩ : ByteArray) = ⟨(l ++ [c]).toArray⟩ := by
  apply ByteArray.ext
  rw [ByteArray.data_append]
  simp

set_option maxHeartbeats 1600000 in
set_option maxRecDepth 20000 in
theorem reftext_word {W n : Nat} (h1 : 1 ≤ W) (h2 : W ≤ 128) (hn : n < 2 ^ W) (w : World) :
    Calls Try.prog 32 #[.agg #[.int .i64 W, .int .u64 (LO (n)), .int .u64 (HI (n))]] w fun e w' => e = .returned (.string ⟨(txt W n W).toArray⟩) ∧ Below w.heap.size w w' := by
  have hn8 : n < 2 ^ 128 := Nat.lt_of_lt_of_le hn (pow_le_128 h2)
  have hd3 : ((W : Int) == 0) = false := by simp; omega
  go_enter Try.func32, Try.ntmps32
  go_wp2_with fail
  refine (refright_w (c := true) h1 h2 hn8 rfl (eqB_yes (Nat.mod_eq_of_lt hn)) _).mono ?_
  rintro e w1 ⟨rfl, hb1⟩
  have hb1' := below_step (w := w) (by go_grown) hb1
  have hs1 := hb1'.size
  have KF1 : w1.cell? ⟨w.heap.size, 0, none⟩ = some (.int .i64 W) ∧ w1.cell? ⟨w.heap.size, 1, none⟩ = some (.int .u64 (LO (n))) ∧ w1.cell? ⟨w.heap.size, 2, none⟩ = some (.int .u64 (HI (n))) := ⟨keep_cell hb1 (by first | (simp [go_sem]; done)), keep_cell hb1 (by first | (simp [go_sem]; done)), keep_cell hb1 (by first | (simp [go_sem]; done))⟩; have KF1z0 : w.heap.size < w1.heap.size := World.block_lt_of_cell? _ _ KF1.1
  clear hb1
  go_wp2_with fail
  refine (bits_own (W := W) (n := n) h2 hn8 rfl rfl rfl _).mono ?_
  rintro e w2 ⟨g, rfl, hB, hb2⟩
  have hb2' := below_step (w := w) (by go_grown) hb2
  have hs2 := hb2'.size
  have HX : Hid (Rd w2 g W (bl W n)) := Bs.rd hB (bl_len W _).symm; clear hB
  have KF2 : w2.cell? ⟨w.heap.size, 0, none⟩ = some (.int .i64 W) ∧ w2.cell? ⟨w.heap.size, 1, none⟩ = some (.int .u64 (LO (n))) ∧ w2.cell? ⟨w.heap.size, 2, none⟩ = some (.int .u64 (HI (n))) := ⟨keep_cell hb2 (by first | (simp [go_sem]; done) | (simp [go_sem, KF1]; done) | (simp [go_sem, KF1, World.cell?_alloc_some]; done) | (simp [go_sem, KF1, frozen?_alloc_cells]; done)), keep_cell hb2 (by first | (simp [go_sem]; done) | (simp [go_sem, KF1]; done) | (simp [go_sem, KF1, World.cell?_alloc_some]; done) | (simp [go_sem, KF1, frozen?_alloc_cells]; done)), keep_cell hb2 (by first | (simp [go_sem]; done) | (simp [go_sem, KF1]; done) | (simp [go_sem, KF1, World.cell?_alloc_some]; done) | (simp [go_sem, KF1, frozen?_alloc_cells]; done))⟩; have KF2z0 : w.heap.size < w2.heap.size := World.block_lt_of_cell? _ _ KF2.1
  clear hb2 KF1
  clear KF2 KF1z0 KF2z0 hb1' hs1
  go_wp2_with fail
  go_loopw [5, 3] (fun i s wr => ∃ k : Nat, k ≤ W ∧ i = .int .i64 ((W : Int) - (k : Int) - 1) ∧ s = .string ⟨(txt W n k).toArray⟩ ∧ wr = w2) (fun i _ _ => (intOf i + 1).toNat)
  case atStart => exact ⟨0, Nat.zero_le _, by simp, rfl, rfl⟩
  case round =>
    obtain ⟨k, hk, rfl, rfl, rfl⟩ := hrel
    by_cases hlt : k < W
    · obtain ⟨q, hq⟩ : ∃ q, q = W - 1 - k := ⟨_, rfl⟩
      have hkq : (W : Int) - (k : Int) - 1 = (q : Int) := by omega
      rw [hkq]
      have hqW : (q : Int) < (W : Int) := by omega
      obtain ⟨v, hv⟩ : ∃ v, v = n.testBit q := ⟨_, rfl⟩
      have hck : wr.cell? ⟨g, q, none⟩ = some (.bool v) := by rw [hv]; exact Rd.bit HX.out (by omega)
      rw [hq] at hv
      have HV : Hid (v = n.testBit (W - 1 - k)) := hv
      have HQ : Hid ((q : Int) - 1 = (W : Int) - ((k + 1 : Nat) : Int) - 1) := by unfold Hid; omega
      have hsz : ¬ (9223372036854775807 < (txt W n k).length + 1) := by rw [txt_len]; omega
      clear hv hq hkq
      cases v
      · go_wp2_with fail
        exact ⟨⟨k + 1, by omega, by rw [HQ.out], by rw [str_put, txt_put (c := 48) (by rw [← HV.out]; rfl)], trivial⟩, by simp [intOf]⟩
      · go_wp2_with fail
        exact ⟨⟨k + 1, by omega, by rw [HQ.out], by rw [str_put, txt_put (c := 49) (by rw [← HV.out]; rfl)], trivial⟩, by simp [intOf]⟩
    · obtain rfl : k = W := by omega
      have hkq : (k : Int) - (k : Int) - 1 = -1 := by omega
      rw [hkq]
      go_wp2_with fail
      go_ret
      exact ⟨rfl, hb2'⟩

set_option maxHeartbeats 400000 in
theorem text_no {A : Int} {N : Nat} (HN : Hid (∀ wx, Calls Try.prog 10 #[.agg #[.int .i64 A, .int .u64 (LO (N)), .int .u64 (HI (N))]] wx fun e w' => e = .returned (.bool false) ∧ Below wx.heap.size wx w')) (w : World) :
    Calls Try.prog 31 #[.agg #[.int .i64 A, .int .u64 (LO (N)), .int .u64 (HI (N))]] w fun e w' => e = .returned (.string ⟨#[]⟩) ∧ Below w.heap.size w w' := by
  go_enter Try.func31, Try.ntmps31
  go_wp2_with fail
  refine (HN.out _).mono ?_
  rintro e w1 ⟨rfl, hb1⟩
  have hb1' := below_step (w := w) (by go_grown) hb1
  have hs1 := hb1'.size
  have KF1 : w1.cell? ⟨w.heap.size, 0, none⟩ = some (.int .i64 A) ∧ w1.cell? ⟨w.heap.size, 1, none⟩ = some (.int .u64 (LO N)) ∧ w1.cell? ⟨w.heap.size, 2, none⟩ = some (.int .u64 (HI N)) := ⟨keep_cell hb1 (by first | (simp [go_sem]; done)), keep_cell hb1 (by first | (simp [go_sem]; done)), keep_cell hb1 (by first | (simp [go_sem]; done))⟩; have KF1z0 : w.heap.size < w1.heap.size := World.block_lt_of_cell? _ _ KF1.1
  clear hb1
  go_wp2_with fail
  go_ret
  exact ⟨rfl, by go_grown⟩
set_option maxHeartbeats 400000 in
theorem reftext_no {A : Int} {N : Nat} (HN : Hid (∀ wx, Calls Try.prog 11 #[.agg #[.int .i64 A, .int .u64 (LO (N)), .int .u64 (HI (N))]] wx fun e w' => e = .returned (.bool false) ∧ Below wx.heap.size wx w')) (w : World) :
    Calls Try.prog 32 #[.agg #[.int .i64 A, .int .u64 (LO (N)), .int .u64 (HI (N))]] w fun e w' => e = .returned (.string ⟨#[]⟩) ∧ Below w.heap.size w w' := by
  go_enter Try.func32, Try.ntmps32
  go_wp2_with fail
  refine (HN.out _).mono ?_
  rintro e w1 ⟨rfl, hb1⟩
  have hb1' := below_step (w := w) (by go_grown) hb1
  have hs1 := hb1'.size
  have KF1 : w1.cell? ⟨w.heap.size, 0, none⟩ = some (.int .i64 A) ∧ w1.cell? ⟨w.heap.size, 1, none⟩ = some (.int .u64 (LO N)) ∧ w1.cell? ⟨w.heap.size, 2, none⟩ = some (.int .u64 (HI N)) := ⟨keep_cell hb1 (by first | (simp [go_sem]; done)), keep_cell hb1 (by first | (simp [go_sem]; done)), keep_cell hb1 (by first | (simp [go_sem]; done))⟩; have KF1z0 : w.heap.size < w1.heap.size := World.block_lt_of_cell? _ _ KF1.1
  clear hb1
  go_wp2_with fail
  go_ret
  exact ⟨rfl, by go_grown⟩

/-- The text of a truth. -/
def btxt (c : Bool) : ByteArray := if c then ⟨#[116, 114, 117, 101]⟩ else ⟨#[102, 97, 108, 115, 101]⟩
set_option maxHeartbeats 400000 in
theorem text_bool (c : Bool) (HN : Hid (∀ wx, Calls Try.prog 10 #[.agg #[.int .i64 0, .int .u64 (LO (b01 c)), .int .u64 (HI (b01 c))]] wx fun e w' => e = .returned (.bool true) ∧ Below wx.heap.size wx w')) (w : World) :
    Calls Try.prog 31 #[.agg #[.int .i64 0, .int .u64 (LO (b01 c)), .int .u64 (HI (b01 c))]] w fun e w' => e = .returned (.string (btxt c)) ∧ Below w.heap.size w w' := by
  have hq : ∀ w, (binOp .eql 24 (.agg #[.int .i64 0, .int .u64 (LO (b01 c)), .int .u64 (HI (b01 c))]) (.agg #[.int .i64 0, .int .u64 (LO (b01 true)), .int .u64 (HI (b01 true))])).run Try.prog w = .ok (.bool c) w := fun w => by
    have h := eq_w 0 (b01 c) (b01 true) w
    rw [show eqB (b01 c) (b01 true) = c by cases c <;> rfl] at h; exact h
  obtain ⟨N, hN⟩ : ∃ N, N = b01 c := ⟨_, rfl⟩
  rw [← hN] at hq HN ⊢
  clear hN
  cases c
  · skip
    go_enter Try.func31, Try.ntmps31
    go_wp2_with fail
    refine (HN.out _).mono ?_
    rintro e w1 ⟨rfl, hb1⟩
    have hb1' := below_step (w := w) (by go_grown) hb1
    have hs1 := hb1'.size
    have KF1 : w1.cell? ⟨w.heap.size, 0, none⟩ = some (.int .i64 0) ∧ w1.cell? ⟨w.heap.size, 1, none⟩ = some (.int .u64 (LO (N))) ∧ w1.cell? ⟨w.heap.size, 2, none⟩ = some (.int .u64 (HI (N))) := ⟨keep_cell hb1 (by first | (simp [go_sem]; done)), keep_cell hb1 (by first | (simp [go_sem]; done)), keep_cell hb1 (by first | (simp [go_sem]; done))⟩; have KF1z0 : w.heap.size < w1.heap.size := World.block_lt_of_cell? _ _ KF1.1
    clear hb1
    go_wp2_with fail
    go_region_held3 (fun x => x.cell? ⟨w.heap.size, 0, none⟩ = some (.int .i64 0) ∧ x.cell? ⟨w.heap.size, 1, none⟩ = some (.int .u64 (LO (N))) ∧ x.cell? ⟨w.heap.size, 2, none⟩ = some (.int .u64 (HI (N))) ∧ Below w.heap.size w x)
      ((refine ⟨?_, ?_, ?_, ?_⟩ <;> first | (simp [go_sem]; done) | (refine cv_some ?_; simp [go_sem]; done) | (simp [go_sem, KFr, KFrz0]; done) | (refine cv_some ?_; simp [go_sem, KFr, KFrz0]; done) | (simp [go_sem, KF1, KF1z0]; done) | (refine cv_some ?_; simp [go_sem, KF1, KF1z0]; done) | (refine put_below ?_ ?_ <;> first | assumption | omega) | (have hH := ‹_ ∧ _ ∧ _ ∧ _›; exact put_below hH.2.2.2 (by omega)) | go_grown))
      ((first | (go_at_call 17; refine (bool_b true _).mono ?_; rintro e wq ⟨rfl, hb⟩; have hb' := below_step (w := w) (by go_grown) hb; have hs := hb'.size; have KFr : wq.cell? ⟨w.heap.size, 0, none⟩ = some (.int .i64 0) ∧ wq.cell? ⟨w.heap.size, 1, none⟩ = some (.int .u64 (LO (N))) ∧ wq.cell? ⟨w.heap.size, 2, none⟩ = some (.int .u64 (HI (N))) := ⟨keep_cell hb (by first | (simp [go_sem]; done) | (simp [go_sem, KFr]; done) | (simp [go_sem, KF1]; done) | (simp [go_sem, KFr, World.cell?_alloc_some]; done) | (simp [go_sem, KF1, World.cell?_alloc_some]; done) | (simp [go_sem, KFr, frozen?_alloc_cells]; done) | (simp [go_sem, KF1, frozen?_alloc_cells]; done)), keep_cell hb (by first | (simp [go_sem]; done) | (simp [go_sem, KFr]; done) | (simp [go_sem, KF1]; done) | (simp [go_sem, KFr, World.cell?_alloc_some]; done) | (simp [go_sem, KF1, World.cell?_alloc_some]; done) | (simp [go_sem, KFr, frozen?_alloc_cells]; done) | (simp [go_sem, KF1, frozen?_alloc_cells]; done)), keep_cell hb (by first | (simp [go_sem]; done) | (simp [go_sem, KFr]; done) | (simp [go_sem, KF1]; done) | (simp [go_sem, KFr, World.cell?_alloc_some]; done) | (simp [go_sem, KF1, World.cell?_alloc_some]; done) | (simp [go_sem, KFr, frozen?_alloc_cells]; done) | (simp [go_sem, KF1, frozen?_alloc_cells]; done))⟩; have KFrz0 : w.heap.size < wq.heap.size := World.block_lt_of_cell? _ _ KFr.1; clear hb)))
    obtain ⟨-, -, -, hBq⟩ := ‹_ ∧ _ ∧ _ ∧ _›
    go_wp2_with fail
    go_ret
    exact ⟨rfl, by go_grown⟩
  · skip
    go_enter Try.func31, Try.ntmps31
    go_wp2_with fail
    refine (HN.out _).mono ?_
    rintro e w1 ⟨rfl, hb1⟩
    have hb1' := below_step (w := w) (by go_grown) hb1
    have hs1 := hb1'.size
    have KF1 : w1.cell? ⟨w.heap.size, 0, none⟩ = some (.int .i64 0) ∧ w1.cell? ⟨w.heap.size, 1, none⟩ = some (.int .u64 (LO (N))) ∧ w1.cell? ⟨w.heap.size, 2, none⟩ = some (.int .u64 (HI (N))) := ⟨keep_cell hb1 (by first | (simp [go_sem]; done)), keep_cell hb1 (by first | (simp [go_sem]; done)), keep_cell hb1 (by first | (simp [go_sem]; done))⟩; have KF1z0 : w.heap.size < w1.heap.size := World.block_lt_of_cell? _ _ KF1.1
    clear hb1
    go_wp2_with fail
    go_region_held3 (fun x => x.cell? ⟨w.heap.size, 0, none⟩ = some (.int .i64 0) ∧ x.cell? ⟨w.heap.size, 1, none⟩ = some (.int .u64 (LO (N))) ∧ x.cell? ⟨w.heap.size, 2, none⟩ = some (.int .u64 (HI (N))) ∧ Below w.heap.size w x)
      ((refine ⟨?_, ?_, ?_, ?_⟩ <;> first | (simp [go_sem]; done) | (refine cv_some ?_; simp [go_sem]; done) | (simp [go_sem, KFr, KFrz0]; done) | (refine cv_some ?_; simp [go_sem, KFr, KFrz0]; done) | (simp [go_sem, KF1, KF1z0]; done) | (refine cv_some ?_; simp [go_sem, KF1, KF1z0]; done) | (refine put_below ?_ ?_ <;> first | assumption | omega) | (have hH := ‹_ ∧ _ ∧ _ ∧ _›; exact put_below hH.2.2.2 (by omega)) | go_grown))
      ((first | (go_at_call 17; refine (bool_b true _).mono ?_; rintro e wq ⟨rfl, hb⟩; have hb' := below_step (w := w) (by go_grown) hb; have hs := hb'.size; have KFr : wq.cell? ⟨w.heap.size, 0, none⟩ = some (.int .i64 0) ∧ wq.cell? ⟨w.heap.size, 1, none⟩ = some (.int .u64 (LO (N))) ∧ wq.cell? ⟨w.heap.size, 2, none⟩ = some (.int .u64 (HI (N))) := ⟨keep_cell hb (by first | (simp [go_sem]; done) | (simp [go_sem, KFr]; done) | (simp [go_sem, KF1]; done) | (simp [go_sem, KFr, World.cell?_alloc_some]; done) | (simp [go_sem, KF1, World.cell?_alloc_some]; done) | (simp [go_sem, KFr, frozen?_alloc_cells]; done) | (simp [go_sem, KF1, frozen?_alloc_cells]; done)), keep_cell hb (by first | (simp [go_sem]; done) | (simp [go_sem, KFr]; done) | (simp [go_sem, KF1]; done) | (simp [go_sem, KFr, World.cell?_alloc_some]; done) | (simp [go_sem, KF1, World.cell?_alloc_some]; done) | (simp [go_sem, KFr, frozen?_alloc_cells]; done) | (simp [go_sem, KF1, frozen?_alloc_cells]; done)), keep_cell hb (by first | (simp [go_sem]; done) | (simp [go_sem, KFr]; done) | (simp [go_sem, KF1]; done) | (simp [go_sem, KFr, World.cell?_alloc_some]; done) | (simp [go_sem, KF1, World.cell?_alloc_some]; done) | (simp [go_sem, KFr, frozen?_alloc_cells]; done) | (simp [go_sem, KF1, frozen?_alloc_cells]; done))⟩; have KFrz0 : w.heap.size < wq.heap.size := World.block_lt_of_cell? _ _ KFr.1; clear hb)))
    obtain ⟨-, -, -, hBq⟩ := ‹_ ∧ _ ∧ _ ∧ _›
    go_wp2_with fail
    go_ret
    exact ⟨rfl, by go_grown⟩
set_option maxHeartbeats 400000 in
theorem reftext_bool (c : Bool) (HN : Hid (∀ wx, Calls Try.prog 11 #[.agg #[.int .i64 0, .int .u64 (LO (b01 c)), .int .u64 (HI (b01 c))]] wx fun e w' => e = .returned (.bool true) ∧ Below wx.heap.size wx w')) (w : World) :
    Calls Try.prog 32 #[.agg #[.int .i64 0, .int .u64 (LO (b01 c)), .int .u64 (HI (b01 c))]] w fun e w' => e = .returned (.string (btxt c)) ∧ Below w.heap.size w w' := by
  cases c
  · have e0 : LO (b01 false) = 0 := rfl
    have e1 : HI (b01 false) = 0 := rfl
    rw [e0, e1] at HN ⊢
    go_enter Try.func32, Try.ntmps32
    go_wp2_with fail
    refine (HN.out _).mono ?_
    rintro e w1 ⟨rfl, hb1⟩
    have hb1' := below_step (w := w) (by go_grown) hb1
    have hs1 := hb1'.size
    have KF1 : w1.cell? ⟨w.heap.size, 0, none⟩ = some (.int .i64 0) ∧ w1.cell? ⟨w.heap.size, 1, none⟩ = some (.int .u64 0) ∧ w1.cell? ⟨w.heap.size, 2, none⟩ = some (.int .u64 0) := ⟨keep_cell hb1 (by first | (simp [go_sem]; done)), keep_cell hb1 (by first | (simp [go_sem]; done)), keep_cell hb1 (by first | (simp [go_sem]; done))⟩; have KF1z0 : w.heap.size < w1.heap.size := World.block_lt_of_cell? _ _ KF1.1
    clear hb1
    go_wp2_with fail
    go_ret
    exact ⟨rfl, by go_grown⟩
  · have e0 : LO (b01 true) = 1 := rfl
    have e1 : HI (b01 true) = 0 := rfl
    rw [e0, e1] at HN ⊢
    go_enter Try.func32, Try.ntmps32
    go_wp2_with fail
    refine (HN.out _).mono ?_
    rintro e w1 ⟨rfl, hb1⟩
    have hb1' := below_step (w := w) (by go_grown) hb1
    have hs1 := hb1'.size
    have KF1 : w1.cell? ⟨w.heap.size, 0, none⟩ = some (.int .i64 0) ∧ w1.cell? ⟨w.heap.size, 1, none⟩ = some (.int .u64 1) ∧ w1.cell? ⟨w.heap.size, 2, none⟩ = some (.int .u64 0) := ⟨keep_cell hb1 (by first | (simp [go_sem]; done)), keep_cell hb1 (by first | (simp [go_sem]; done)), keep_cell hb1 (by first | (simp [go_sem]; done))⟩; have KF1z0 : w.heap.size < w1.heap.size := World.block_lt_of_cell? _ _ KF1.1
    clear hb1
    go_wp2_with fail
    go_ret
    exact ⟨rfl, by go_grown⟩
end Go.Proofs.Ytjcmnhipiejnpaa
