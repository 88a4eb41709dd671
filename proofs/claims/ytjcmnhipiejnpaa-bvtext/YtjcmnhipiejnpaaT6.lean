/- Contracts: texts read, as the program does it. -/
import Derived.Test.YtjcmnhipiejnpaaT5
namespace Go.Proofs.Ytjcmnhipiejnpaa
open Go.RowKit
set_option linter.unusedSimpArgs false
set_option linter.unusedVariables false

set_option maxHeartbeats 200000 in
theorem refbool_t (b : Bool) (w : World) :
    Calls Try.prog 18 #[.bool b] w fun e w' => e = .returned (.agg #[.int .i64 0, .int .u64 (LO (b01 b)), .int .u64 (HI (b01 b))]) ∧ Below w.heap.size w w' := by
  cases b
  · go_enter Try.func18, Try.ntmps18
    go_wp2_with fail
    refine bodyPost_ret (v := .agg #[.int .i64 0, .int .u64 0, .int .u64 0]) (by simp [results, Try.results18, go_sem]) rfl ?_
    exact ⟨rfl, by go_grown⟩
  · go_enter Try.func18, Try.ntmps18
    go_wp2_with fail
    refine bodyPost_ret (v := .agg #[.int .i64 0, .int .u64 1, .int .u64 0]) (by simp [results, Try.results18, go_sem]) rfl ?_
    exact ⟨rfl, by go_grown⟩

set_option maxHeartbeats 400000 in
theorem digits_out {t : ByteArray} {b m : Nat} (hb : b = 1 ∨ b = 4) (hm : t.size = m) (hmm : m ≤ 1000) (h : m * b < 1 ∨ 128 < m * b) (w : World) :
    Calls Try.prog 58 #[.string t, .int .i64 (b : Int)] w fun e w' => e = .returned (.tuple #[.agg #[.int .i64 0, .int .u64 0, .int .u64 0], .int .i64 13]) ∧ Below w.heap.size w w' := by
  obtain ⟨W, hW⟩ : ∃ W, W = m * b := ⟨_, rfl⟩
  have hmul : (m : Int) * (b : Int) = (W : Int) := by rw [hW]; simp
  have hW5 : W ≤ 4000 := by rw [hW]; rcases hb with rfl | rfl <;> omega
  rw [← hW] at h
  clear hW hb
  by_cases h0 : (W : Int) < 1
  · clear h
    go_enter Try.func58, Try.ntmps58
    go_wp2_with fail
    refine bodyPost_ret (v := .tuple #[.agg #[.int .i64 0, .int .u64 0, .int .u64 0], .int .i64 13]) (by simp [results, Try.results58, go_sem]) rfl ?_
    exact ⟨rfl, by go_grown⟩
  · have h9 : (128 : Int) < (W : Int) := by omega
    clear h
    go_enter Try.func58, Try.ntmps58
    go_wp2_with fail
    refine bodyPost_ret (v := .tuple #[.agg #[.int .i64 0, .int .u64 0, .int .u64 0], .int .i64 13]) (by simp [results, Try.results58, go_sem]) rfl ?_
    exact ⟨rfl, by go_grown⟩

set_option maxHeartbeats 400000 in
theorem parse_true {s : ByteArray} (e1 : (s.toList == [116, 114, 117, 101]) = true) (w : World) : Calls Try.prog 29 #[.string s] w fun e w' => e = .returned (.tuple #[.agg #[.int .i64 0, .int .u64 (LO (b01 true)), .int .u64 (HI (b01 true))], .int .i64 0]) ∧ Below w.heap.size w w' := by
  go_enter Try.func29, Try.ntmps29
  go_wp2_with fail
  refine (bool_b true _).mono ?_
  rintro e w1 ⟨rfl, hb1⟩
  have hb1' := below_step (w := w) (by go_grown) hb1
  have hs1 := hb1'.size
  have KF1 : w1.cell? ⟨w.heap.size, 0, none⟩ = some (cv w1 ⟨w.heap.size, 0, none⟩) ∧ w1.cell? ⟨w.heap.size, 1, none⟩ = some (cv w1 ⟨w.heap.size, 1, none⟩) ∧ w1.cell? ⟨w.heap.size, 2, none⟩ = some (cv w1 ⟨w.heap.size, 2, none⟩) ∧ (∀ o, w1.frozen? ⟨w.heap.size, o, none⟩ = false) := ⟨keep_some hb1 (by first | (simp [go_sem]; done)), keep_some hb1 (by first | (simp [go_sem]; done)), keep_some hb1 (by first | (simp [go_sem]; done)), keep_frozen2 hb1 (by first | (simp [go_sem]; done)) (by first | (simp [go_sem]; done))⟩; have KF1z0 : w.heap.size < w1.heap.size := World.block_lt_of_cell? _ _ KF1.1
  clear hb1
  go_wp2_with fail
  refine bodyPost_ret (v := .tuple #[.agg #[.int .i64 0, .int .u64 (LO (b01 true)), .int .u64 (HI (b01 true))], .int .i64 0]) (by simp [results, Try.results29, go_sem, *]) rfl ?_
  exact ⟨rfl, by go_grown⟩
set_option maxHeartbeats 400000 in
theorem parse_false {s : ByteArray} (e1 : (s.toList == [116, 114, 117, 101]) = false) (e2 : (s.toList == [102, 97, 108, 115, 101]) = true) (w : World) : Calls Try.prog 29 #[.string s] w fun e w' => e = .returned (.tuple #[.agg #[.int .i64 0, .int .u64 (LO (b01 false)), .int .u64 (HI (b01 false))], .int .i64 0]) ∧ Below w.heap.size w w' := by
  go_enter Try.func29, Try.ntmps29
  go_wp2_with fail
  refine (bool_b false _).mono ?_
  rintro e w1 ⟨rfl, hb1⟩
  have hb1' := below_step (w := w) (by go_grown) hb1
  have hs1 := hb1'.size
  have KF1 : w1.cell? ⟨w.heap.size, 0, none⟩ = some (cv w1 ⟨w.heap.size, 0, none⟩) ∧ w1.cell? ⟨w.heap.size, 1, none⟩ = some (cv w1 ⟨w.heap.size, 1, none⟩) ∧ w1.cell? ⟨w.heap.size, 2, none⟩ = some (cv w1 ⟨w.heap.size, 2, none⟩) ∧ (∀ o, w1.frozen? ⟨w.heap.size, o, none⟩ = false) := ⟨keep_some hb1 (by first | (simp [go_sem]; done)), keep_some hb1 (by first | (simp [go_sem]; done)), keep_some hb1 (by first | (simp [go_sem]; done)), keep_frozen2 hb1 (by first | (simp [go_sem]; done)) (by first | (simp [go_sem]; done))⟩; have KF1z0 : w.heap.size < w1.heap.size := World.block_lt_of_cell? _ _ KF1.1
  clear hb1
  go_wp2_with fail
  refine bodyPost_ret (v := .tuple #[.agg #[.int .i64 0, .int .u64 (LO (b01 false)), .int .u64 (HI (b01 false))], .int .i64 0]) (by simp [results, Try.results29, go_sem, *]) rfl ?_
  exact ⟨rfl, by go_grown⟩

set_option maxHeartbeats 400000 in
theorem refparse_true {s : ByteArray} (e1 : (s.toList == [116, 114, 117, 101]) = true) (w : World) : Calls Try.prog 30 #[.string s] w fun e w' => e = .returned (.tuple #[.agg #[.int .i64 0, .int .u64 (LO (b01 true)), .int .u64 (HI (b01 true))], .int .i64 0]) ∧ Below w.heap.size w w' := by
  go_enter Try.func30, Try.ntmps30
  go_wp2_with fail
  refine (refbool_t true _).mono ?_
  rintro e w1 ⟨rfl, hb1⟩
  have hb1' := below_step (w := w) (by go_grown) hb1
  have hs1 := hb1'.size
  have KF1 : w1.cell? ⟨w.heap.size, 0, none⟩ = some (cv w1 ⟨w.heap.size, 0, none⟩) ∧ w1.cell? ⟨w.heap.size, 1, none⟩ = some (cv w1 ⟨w.heap.size, 1, none⟩) ∧ w1.cell? ⟨w.heap.size, 2, none⟩ = some (cv w1 ⟨w.heap.size, 2, none⟩) ∧ (∀ o, w1.frozen? ⟨w.heap.size, o, none⟩ = false) := ⟨keep_some hb1 (by first | (simp [go_sem]; done)), keep_some hb1 (by first | (simp [go_sem]; done)), keep_some hb1 (by first | (simp [go_sem]; done)), keep_frozen2 hb1 (by first | (simp [go_sem]; done)) (by first | (simp [go_sem]; done))⟩; have KF1z0 : w.heap.size < w1.heap.size := World.block_lt_of_cell? _ _ KF1.1
  clear hb1
  go_wp2_with fail
  refine bodyPost_ret (v := .tuple #[.agg #[.int .i64 0, .int .u64 (LO (b01 true)), .int .u64 (HI (b01 true))], .int .i64 0]) (by simp [results, Try.results30, go_sem, *]) rfl ?_
  exact ⟨rfl, by go_grown⟩
set_option maxHeartbeats 400000 in
theorem refparse_false {s : ByteArray} (e1 : (s.toList == [116, 114, 117, 101]) = false) (e2 : (s.toList == [102, 97, 108, 115, 101]) = true) (w : World) : Calls Try.prog 30 #[.string s] w fun e w' => e = .returned (.tuple #[.agg #[.int .i64 0, .int .u64 (LO (b01 false)), .int .u64 (HI (b01 false))], .int .i64 0]) ∧ Below w.heap.size w w' := by
  go_enter Try.func30, Try.ntmps30
  go_wp2_with fail
  refine (refbool_t false _).mono ?_
  rintro e w1 ⟨rfl, hb1⟩
  have hb1' := below_step (w := w) (by go_grown) hb1
  have hs1 := hb1'.size
  have KF1 : w1.cell? ⟨w.heap.size, 0, none⟩ = some (cv w1 ⟨w.heap.size, 0, none⟩) ∧ w1.cell? ⟨w.heap.size, 1, none⟩ = some (cv w1 ⟨w.heap.size, 1, none⟩) ∧ w1.cell? ⟨w.heap.size, 2, none⟩ = some (cv w1 ⟨w.heap.size, 2, none⟩) ∧ (∀ o, w1.frozen? ⟨w.heap.size, o, none⟩ = false) := ⟨keep_some hb1 (by first | (simp [go_sem]; done)), keep_some hb1 (by first | (simp [go_sem]; done)), keep_some hb1 (by first | (simp [go_sem]; done)), keep_frozen2 hb1 (by first | (simp [go_sem]; done)) (by first | (simp [go_sem]; done))⟩; have KF1z0 : w.heap.size < w1.heap.size := World.block_lt_of_cell? _ _ KF1.1
  clear hb1
  go_wp2_with fail
  refine bodyPost_ret (v := .tuple #[.agg #[.int .i64 0, .int .u64 (LO (b01 false)), .int .u64 (HI (b01 false))], .int .i64 0]) (by simp [results, Try.results30, go_sem, *]) rfl ?_
  exact ⟨rfl, by go_grown⟩

set_option maxHeartbeats 400000 in
theorem parse_bin {s : ByteArray} {K l h er : Int} (e1 : (s.toList == [116, 114, 117, 101]) = false) (e2 : (s.toList == [102, 97, 108, 115, 101]) = false) (hs : 2 ≤ s.size) (hs9 : s.size ≤ 400) (hp : Lib.hasPrefix s.data.toList [35, 98] = true)
    (HD : Hid (∀ wx, Calls Try.prog 58 #[.string (s.extract 2 s.size), .int .i64 1] wx fun e w' => e = .returned (.tuple #[.agg #[.int .i64 K, .int .u64 l, .int .u64 h], .int .i64 er]) ∧ Below wx.heap.size wx w')) (w : World) :
    Calls Try.prog 29 #[.string s] w fun e w' => e = .returned (.tuple #[.agg #[.int .i64 K, .int .u64 l, .int .u64 h], .int .i64 er]) ∧ Below w.heap.size w w' := by
  have HP : Hid (∀ wx, Calls Try.prog 57 #[.string s, .string ⟨#[35, 98]⟩] wx fun e w' => e = .returned (.bool true) ∧ w' = wx) := fun wx => by rw [← hp]; exact has_prefix s ⟨#[35, 98]⟩ wx
  clear hp
  go_enter Try.func29, Try.ntmps29
  go_wp2_with fail
  refine (HP.out _).mono ?_
  rintro e wz ⟨rfl, rfl⟩
  go_wp2_with fail
  refine (HD.out _).mono ?_
  rintro e w1 ⟨rfl, hb1⟩
  have hb1' := below_step (w := w) (by go_grown) hb1
  have hs1 := hb1'.size
  have KF1 : w1.cell? ⟨w.heap.size, 0, none⟩ = some (cv w1 ⟨w.heap.size, 0, none⟩) ∧ w1.cell? ⟨w.heap.size, 1, none⟩ = some (cv w1 ⟨w.heap.size, 1, none⟩) ∧ w1.cell? ⟨w.heap.size, 2, none⟩ = some (cv w1 ⟨w.heap.size, 2, none⟩) ∧ (∀ o, w1.frozen? ⟨w.heap.size, o, none⟩ = false) := ⟨keep_some hb1 (by first | (simp [go_sem]; done)), keep_some hb1 (by first | (simp [go_sem]; done)), keep_some hb1 (by first | (simp [go_sem]; done)), keep_frozen2 hb1 (by first | (simp [go_sem]; done)) (by first | (simp [go_sem]; done))⟩; have KF1z0 : w.heap.size < w1.heap.size := World.block_lt_of_cell? _ _ KF1.1
  clear hb1
  go_wp2_with fail
  refine bodyPost_ret (v := .tuple #[.agg #[.int .i64 K, .int .u64 l, .int .u64 h], .int .i64 er]) (by simp [results, Try.results29, go_sem, *]) rfl ?_
  exact ⟨rfl, by go_grown⟩

set_option maxHeartbeats 400000 in
theorem parse_hex {s : ByteArray} {K l h er : Int} (e1 : (s.toList == [116, 114, 117, 101]) = false) (e2 : (s.toList == [102, 97, 108, 115, 101]) = false) (hs : 2 ≤ s.size) (hs9 : s.size ≤ 400) (hp : Lib.hasPrefix s.data.toList [35, 98] = false) (hp2 : Lib.hasPrefix s.data.toList [35, 120] = true)
    (HD : Hid (∀ wx, Calls Try.prog 58 #[.string (s.extract 2 s.size), .int .i64 4] wx fun e w' => e = .returned (.tuple #[.agg #[.int .i64 K, .int .u64 l, .int .u64 h], .int .i64 er]) ∧ Below wx.heap.size wx w')) (w : World) :
    Calls Try.prog 29 #[.string s] w fun e w' => e = .returned (.tuple #[.agg #[.int .i64 K, .int .u64 l, .int .u64 h], .int .i64 er]) ∧ Below w.heap.size w w' := by
  have HP : Hid (∀ wx, Calls Try.prog 57 #[.string s, .string ⟨#[35, 98]⟩] wx fun e w' => e = .returned (.bool false) ∧ w' = wx) := fun wx => by rw [← hp]; exact has_prefix s ⟨#[35, 98]⟩ wx
  have HX : Hid (∀ wx, Calls Try.prog 57 #[.string s, .string ⟨#[35, 120]⟩] wx fun e w' => e = .returned (.bool true) ∧ w' = wx) := fun wx => by rw [← hp2]; exact has_prefix s ⟨#[35, 120]⟩ wx
  clear hp hp2
  go_enter Try.func29, Try.ntmps29
  go_wp2_with fail
  refine (HP.out _).mono ?_
  rintro e wz ⟨rfl, rfl⟩
  go_wp2_with fail
  refine (HX.out _).mono ?_
  rintro e wz ⟨rfl, rfl⟩
  go_wp2_with fail
  refine (HD.out _).mono ?_
  rintro e w1 ⟨rfl, hb1⟩
  have hb1' := below_step (w := w) (by go_grown) hb1
  have hs1 := hb1'.size
  have KF1 : w1.cell? ⟨w.heap.size, 0, none⟩ = some (cv w1 ⟨w.heap.size, 0, none⟩) ∧ w1.cell? ⟨w.heap.size, 1, none⟩ = some (cv w1 ⟨w.heap.size, 1, none⟩) ∧ w1.cell? ⟨w.heap.size, 2, none⟩ = some (cv w1 ⟨w.heap.size, 2, none⟩) ∧ (∀ o, w1.frozen? ⟨w.heap.size, o, none⟩ = false) := ⟨keep_some hb1 (by first | (simp [go_sem]; done)), keep_some hb1 (by first | (simp [go_sem]; done)), keep_some hb1 (by first | (simp [go_sem]; done)), keep_frozen2 hb1 (by first | (simp [go_sem]; done)) (by first | (simp [go_sem]; done))⟩; have KF1z0 : w.heap.size < w1.heap.size := World.block_lt_of_cell? _ _ KF1.1
  clear hb1
  go_wp2_with fail
  refine bodyPost_ret (v := .tuple #[.agg #[.int .i64 K, .int .u64 l, .int .u64 h], .int .i64 er]) (by simp [results, Try.results29, go_sem, *]) rfl ?_
  exact ⟨rfl, by go_grown⟩

set_option maxHeartbeats 400000 in
theorem parse_none {s : ByteArray} (e1 : (s.toList == [116, 114, 117, 101]) = false) (e2 : (s.toList == [102, 97, 108, 115, 101]) = false) (hp : Lib.hasPrefix s.data.toList [35, 98] = false) (hp2 : Lib.hasPrefix s.data.toList [35, 120] = false) (w : World) :
    Calls Try.prog 29 #[.string s] w fun e w' => e = .returned (.tuple #[.agg #[.int .i64 0, .int .u64 0, .int .u64 0], .int .i64 13]) ∧ Below w.heap.size w w' := by
  have HP : Hid (∀ wx, Calls Try.prog 57 #[.string s, .string ⟨#[35, 98]⟩] wx fun e w' => e = .returned (.bool false) ∧ w' = wx) := fun wx => by rw [← hp]; exact has_prefix s ⟨#[35, 98]⟩ wx
  have HX : Hid (∀ wx, Calls Try.prog 57 #[.string s, .string ⟨#[35, 120]⟩] wx fun e w' => e = .returned (.bool false) ∧ w' = wx) := fun wx => by rw [← hp2]; exact has_prefix s ⟨#[35, 120]⟩ wx
  clear hp hp2
  go_enter Try.func29, Try.ntmps29
  go_wp2_with fail
  refine (HP.out _).mono ?_
  rintro e wz ⟨rfl, rfl⟩
  go_wp2_with fail
  refine (HX.out _).mono ?_
  rintro e wz ⟨rfl, rfl⟩
  go_wp2_with fail
  refine bodyPost_ret (v := .tuple #[.agg #[.int .i64 0, .int .u64 0, .int .u64 0], .int .i64 13]) (by simp [results, Try.results29, go_sem]) rfl ?_
  exact ⟨rfl, by go_grown⟩
end Go.Proofs.Ytjcmnhipiejnpaa
