/- Contracts: the document's operators on two words: comparisons. -/
import Derived.Deep.CutRange
import Derived.Test.YtnflphhckgeneaaGreatMg26
import Derived.Test.YtnflphhckgeneaaGreatO2
namespace Go.Proofs.YtnflphhckgeneaaGreat
set_option maxHeartbeats 12800000
set_option maxRecDepth 100000
open Go.RowKit
set_option linter.unusedSimpArgs false
set_option linter.unusedVariables false

theorem refbool_b (b : Bool) (w : World) :
    Rt 51 #[.bool b] w (.agg #[.int .i64 0, .int .u64 (LO (b01 b)), .int .u64 (HI (b01 b))]) := by
  cases b
  · go_enter Tryz.func51, Tryz.ntmps51
    go_wp2_with fail
    refine bodyPost_ret (v := .agg #[.int .i64 0, .int .u64 0, .int .u64 0]) (by simp [results, Tryz.results51, go_sem]) rfl ?_
    exact ⟨rfl, by go_grown⟩
  · go_enter Tryz.func51, Tryz.ntmps51
    go_wp2_with fail
    refine bodyPost_ret (v := .agg #[.int .i64 0, .int .u64 1, .int .u64 0]) (by simp [results, Tryz.results51, go_sem]) rfl ?_
    exact ⟨rfl, by go_grown⟩

theorem reftwo_cmp {W n m k : Nat} {op : Int} (hop : op = 29 + (k : Int)) (hk : k < 8) (h1 : 1 ≤ W) (h2 : W ≤ 128) (hn : n < 2 ^ W) (hm : m < 2 ^ W) (w : World) :
    Rt 59 #[.int .i64 op, .agg #[.int .i64 W, .int .u64 (LO (n)), .int .u64 (HI (n))], .agg #[.int .i64 W, .int .u64 (LO (m)), .int .u64 (HI (m))]] w (.tuple #[.agg #[.int .i64 0, .int .u64 (LO (b01 (cmpv k W n m))), .int .u64 (HI (b01 (cmpv k W n m)))], .int .i64 0]) := by
  have HWN : Hid (∀ (v u : Value) (wx : World), Rt 99 #[.int .i64 op, v, u] wx (.tuple #[.slice none 0 0, .bool false])) := fun v u wx => rwords_none (by omega)
  have HOP : Hid (op = 29 + (k : Int) ∧ k < 8) := ⟨hop, hk⟩
  clear hop hk
  have hn8 : n < 2 ^ 128 := Nat.lt_of_lt_of_le hn (pow_le_128 h2)
  have hm8 : m < 2 ^ 128 := Nat.lt_of_lt_of_le hm (pow_le_128 h2)
  go_enter Tryz.func59, Tryz.ntmps59
  go_wp2_with fail
  refine (refword_yes h1 h2 hn _).mono ?_
  rintro e w1 ⟨rfl, hb1⟩
  have hb1' := below_step (w := w) (by go_grown) hb1
  have hs1 := hb1'.size
  have KF1 : W3 w1 w.heap.size W n <| F3 w1 w.heap.size <| W3 w1 (w.heap.size + 1) W m <| F3 w1 (w.heap.size + 1) <| S3 w1 (w.heap.size + 1 + 1) <| F3 w1 (w.heap.size + 1 + 1) <| True := (by refine k3 hb1 ?_ ?_ ?_ <| f3 hb1 ?_ ?_ <| k3 hb1 ?_ ?_ ?_ <| f3 hb1 ?_ ?_ <| s3 hb1 ?_ ?_ ?_ <| f3 hb1 ?_ ?_ <| trivial <;> (first | (simp [go_sem]; done))); have KF1z0 := zT KF1; have KF1z1 := zT KF1.2.2.2.2; have KF1z2 := zT KF1.2.2.2.2.2.2.2.2
  clear hb1
  go_wp2_with fail
  refine (refword_yes h1 h2 hm _).mono ?_
  rintro e w2 ⟨rfl, hb2⟩
  have hb2' := below_step (w := w) (by go_grown) hb2
  have hs2 := hb2'.size
  have KF2 : W3 w2 w.heap.size W n <| F3 w2 w.heap.size <| W3 w2 (w.heap.size + 1) W m <| F3 w2 (w.heap.size + 1) <| S3 w2 (w.heap.size + 1 + 1) <| F3 w2 (w.heap.size + 1 + 1) <| True := (by refine k3 hb2 ?_ ?_ ?_ <| f3 hb2 ?_ ?_ <| k3 hb2 ?_ ?_ ?_ <| f3 hb2 ?_ ?_ <| s3 hb2 ?_ ?_ ?_ <| f3 hb2 ?_ ?_ <| trivial <;> (first | (simp [go_sem]; done) | (simp [go_sem, KF1]; done) | (simp [go_sem, KF1, World.cell?_alloc_some, frozen?_alloc_cells]; done))); have KF2z0 := zT KF2; have KF2z1 := zT KF2.2.2.2.2; have KF2z2 := zT KF2.2.2.2.2.2.2.2.2
  clear hb2 KF1
  go_upto_region 3 with fail
  go_cut [8, 9] (fun u v wx => ∃ gx gy : Nat, u = .slice (some ⟨gx, 0, none⟩) W W ∧ v = .slice (some ⟨gy, 0, none⟩) W W ∧ Rd wx gx W (bl W n) ∧ Rd wx gy W (bl W m) ∧ (wx.cell? ⟨w.heap.size, 0, none⟩ = some (.int .i64 W) ∧ wx.cell? ⟨w.heap.size, 1, none⟩ = some (.int .u64 (LO n)) ∧ wx.cell? ⟨w.heap.size, 2, none⟩ = some (.int .u64 (HI n)) ∧ (∀ o, wx.frozen? ⟨w.heap.size, o, none⟩ = false) ∧ wx.cell? ⟨w.heap.size + 1, 0, none⟩ = some (.int .i64 W) ∧ wx.cell? ⟨w.heap.size + 1, 1, none⟩ = some (.int .u64 (LO m)) ∧ wx.cell? ⟨w.heap.size + 1, 2, none⟩ = some (.int .u64 (HI m)) ∧ (∀ o, wx.frozen? ⟨w.heap.size + 1, o, none⟩ = false) ∧ wx.cell? ⟨w.heap.size + 1 + 1, 0, none⟩ = some (cv wx ⟨w.heap.size + 1 + 1, 0, none⟩) ∧ wx.cell? ⟨w.heap.size + 1 + 1, 1, none⟩ = some (cv wx ⟨w.heap.size + 1 + 1, 1, none⟩) ∧ wx.cell? ⟨w.heap.size + 1 + 1, 2, none⟩ = some (cv wx ⟨w.heap.size + 1 + 1, 2, none⟩) ∧ (∀ o, wx.frozen? ⟨w.heap.size + 1 + 1, o, none⟩ = false)) ∧ Below w.heap.size w wx)
  case first =>
    go_wp2_with fail
    go_region_with ((first | (go_at_call_of 50 (LO n); refine (bits_own (W := W) (n := n) h2 hn8 rfl rfl rfl _).mono ?_; rintro e wq ⟨gx, rfl, hBx, hb⟩; have hb' := below_step (w := w) (by go_grown) hb; have hs := hb'.size; have KFr : W3 wq w.heap.size W n <| F3 wq w.heap.size <| W3 wq (w.heap.size + 1) W m <| F3 wq (w.heap.size + 1) <| S3 wq (w.heap.size + 1 + 1) <| (∀ o, wq.frozen? ⟨w.heap.size + 1 + 1, o, none⟩ = false) := (by refine k3 hb ?_ ?_ ?_ <| f3 hb ?_ ?_ <| k3 hb ?_ ?_ ?_ <| f3 hb ?_ ?_ <| s3 hb ?_ ?_ ?_ <| keep_frozen2 hb ?_ ?_ <;> (first | (simp [go_sem]; done) | (simp [go_sem, KFr]; done) | (simp [go_sem, KF2]; done) | (simp [go_sem, KFr, World.cell?_alloc_some]; done) | (simp [go_sem, KF2, World.cell?_alloc_some]; done) | (simp [go_sem, KFr, frozen?_alloc_cells]; done) | (simp [go_sem, KF2, frozen?_alloc_cells]; done))); have KFrz0 : w.heap.size < wq.heap.size := World.block_lt_of_cell? _ _ KFr.1; have KFrz1 : w.heap.size + 1 < wq.heap.size := World.block_lt_of_cell? _ _ KFr.2.2.2.2.1; have KFrz2 : w.heap.size + 1 + 1 < wq.heap.size := World.block_lt_of_cell? _ _ KFr.2.2.2.2.2.2.2.2.1; have HX : Hid (Rd wq gx W (bl W n)) := Bs.rd hBx (bl_len W _).symm; (try replace HY : Hid (Rd wq _ W (bl W m)) := Rd.keep HY.out hb); clear hBx; clear hb) | (go_at_call_of 50 (LO m); refine (bits_own (W := W) (n := m) h2 hm8 rfl rfl rfl _).mono ?_; rintro e wq ⟨gy, rfl, hBy, hb⟩; have hb' := below_step (w := w) (by go_grown) hb; have hs := hb'.size; have KFr : W3 wq w.heap.size W n <| F3 wq w.heap.size <| W3 wq (w.heap.size + 1) W m <| F3 wq (w.heap.size + 1) <| S3 wq (w.heap.size + 1 + 1) <| (∀ o, wq.frozen? ⟨w.heap.size + 1 + 1, o, none⟩ = false) := (by refine k3 hb ?_ ?_ ?_ <| f3 hb ?_ ?_ <| k3 hb ?_ ?_ ?_ <| f3 hb ?_ ?_ <| s3 hb ?_ ?_ ?_ <| keep_frozen2 hb ?_ ?_ <;> (first | (simp [go_sem]; done) | (simp [go_sem, KFr]; done) | (simp [go_sem, KF2]; done) | (simp [go_sem, KFr, World.cell?_alloc_some]; done) | (simp [go_sem, KF2, World.cell?_alloc_some]; done) | (simp [go_sem, KFr, frozen?_alloc_cells]; done) | (simp [go_sem, KF2, frozen?_alloc_cells]; done))); have KFrz0 : w.heap.size < wq.heap.size := World.block_lt_of_cell? _ _ KFr.1; have KFrz1 : w.heap.size + 1 < wq.heap.size := World.block_lt_of_cell? _ _ KFr.2.2.2.2.1; have KFrz2 : w.heap.size + 1 + 1 < wq.heap.size := World.block_lt_of_cell? _ _ KFr.2.2.2.2.2.2.2.2.1; have HY : Hid (Rd wq gy W (bl W m)) := Bs.rd hBy (bl_len W _).symm; (try replace HX : Hid (Rd wq _ W (bl W n)) := Rd.keep HX.out hb); clear hBy; clear hb)))
    all_goals
      go_wp2_with fail
      go_meet
    all_goals first | exact ⟨_, _, rfl, rfl, HX.out, HY.out, KFr, hb'⟩ | exact ⟨_, _, rfl, rfl, HX.out, HY.out, KFr, hb'.drew⟩
  case rest =>
    obtain ⟨gx, gy, rfl, rfl, hX, hY, KFc, hbl⟩ := hcut
    have HX : Hid (Rd wc gx W (bl W n)) := hX
    have HY : Hid (Rd wc gy W (bl W m)) := hY
    have hbs := hbl.size
    clear hX hY KF2 hb1' hb2' hs1 hs2 KF1z0 KF1z1 KF1z2 KF2z0 KF2z1 KF2z2
    go_wp2_with fail
    refine (HWN.out _ _ _).mono ?_
    rintro e w3 ⟨rfl, hb3⟩
    have hb3' := below_step (w := w) (by go_grown) hb3
    have hs3 := hb3'.size
    have HX3 : Hid (Rd w3 gx W (bl W n)) := Rd.keep HX.out hb3; have HY3 : Hid (Rd w3 gy W (bl W m)) := Rd.keep HY.out hb3; clear HX HY HWN
    have KF3 : W3 w3 w.heap.size W n <| F3 w3 w.heap.size <| W3 w3 (w.heap.size + 1) W m <| F3 w3 (w.heap.size + 1) <| S3 w3 (w.heap.size + 1 + 1) <| F3 w3 (w.heap.size + 1 + 1) <| True := (by refine k3 hb3 ?_ ?_ ?_ <| f3 hb3 ?_ ?_ <| k3 hb3 ?_ ?_ ?_ <| f3 hb3 ?_ ?_ <| s3 hb3 ?_ ?_ ?_ <| f3 hb3 ?_ ?_ <| trivial <;> (first | (simp [go_sem]; done) | (simp [go_sem, KFc]; done) | (simp [go_sem, KFc, World.cell?_alloc_some, frozen?_alloc_cells]; done))); have KF3z0 := zT KF3; have KF3z1 := zT KF3.2.2.2.2; have KF3z2 := zT KF3.2.2.2.2.2.2.2.2
    clear hb3 KFc
    have hop := HOP.out.1
    have hk8 : k = 0 ∨ k = 1 ∨ k = 2 ∨ k = 3 ∨ k = 4 ∨ k = 5 ∨ k = 6 ∨ k = 7 := by have := HOP.out.2; omega
    clear HOP
    subst hop
    rcases hk8 with rfl | rfl | rfl | rfl | rfl | rfl | rfl | rfl
    · skip
      have hco : (29 : Int) + ((0 : Nat) : Int) = 29 := rfl
      rw [hco]
      clear hco
      obtain ⟨d, hd⟩ : ∃ d, d = decide (n < m) := ⟨_, rfl⟩
      have HD : Hid (Rt 101 #[.slice (some ⟨gx, 0, none⟩) W W, .slice (some ⟨gy, 0, none⟩) W W] w3 (.bool d)) := by unfold Hid; rw [hd]; exact rbelow HX3.out HY3.out h2 hn hm
      have HC : Hid (cmpv 0 W n m = d) := by unfold Hid; rw [hd]; rfl
      clear hd HX3 HY3
      go_wp2_with fail
      refine (HD.out).mono ?_
      rintro e w4 ⟨rfl, hb4⟩
      have hb4' := below_step (w := w) (by go_grown) hb4
      have hs4 := hb4'.size
      have KF4 : W3 w4 w.heap.size W n <| F3 w4 w.heap.size <| W3 w4 (w.heap.size + 1) W m <| F3 w4 (w.heap.size + 1) <| S3 w4 (w.heap.size + 1 + 1) <| F3 w4 (w.heap.size + 1 + 1) <| True := (by refine k3 hb4 ?_ ?_ ?_ <| f3 hb4 ?_ ?_ <| k3 hb4 ?_ ?_ ?_ <| f3 hb4 ?_ ?_ <| s3 hb4 ?_ ?_ ?_ <| f3 hb4 ?_ ?_ <| trivial <;> (first | (simp [go_sem]; done) | (simp [go_sem, KF3]; done) | (simp [go_sem, KF3, World.cell?_alloc_some, frozen?_alloc_cells]; done))); have KF4z0 := zT KF4; have KF4z1 := zT KF4.2.2.2.2; have KF4z2 := zT KF4.2.2.2.2.2.2.2.2
      clear hb4 KF3
      go_wp2_with fail
      refine (refbool_b d _).mono ?_
      rintro e w5 ⟨rfl, hb5⟩
      have hb5' := below_step (w := w) (by go_grown) hb5
      have hs5 := hb5'.size
      have KF5 : W3 w5 w.heap.size W n <| F3 w5 w.heap.size <| W3 w5 (w.heap.size + 1) W m <| F3 w5 (w.heap.size + 1) <| S3 w5 (w.heap.size + 1 + 1) <| F3 w5 (w.heap.size + 1 + 1) <| True := (by refine k3 hb5 ?_ ?_ ?_ <| f3 hb5 ?_ ?_ <| k3 hb5 ?_ ?_ ?_ <| f3 hb5 ?_ ?_ <| s3 hb5 ?_ ?_ ?_ <| f3 hb5 ?_ ?_ <| trivial <;> (first | (simp [go_sem]; done) | (simp [go_sem, KF4]; done) | (simp [go_sem, KF4, World.cell?_alloc_some, frozen?_alloc_cells]; done))); have KF5z0 := zT KF5; have KF5z1 := zT KF5.2.2.2.2; have KF5z2 := zT KF5.2.2.2.2.2.2.2.2
      clear hb5 KF4
      go_wp2_with fail
      refine bodyPost_ret (v := .tuple #[.agg #[.int .i64 0, .int .u64 (LO (b01 d)), .int .u64 (HI (b01 d))], .int .i64 0]) (by simp [results, Tryz.results59, go_sem, KF5]) rfl ?_
      exact ⟨by rw [HC.out], by go_grown⟩
    · skip
      have hco : (29 : Int) + ((1 : Nat) : Int) = 30 := rfl
      rw [hco]
      clear hco
      obtain ⟨d, hd⟩ : ∃ d, d = decide (m < n) := ⟨_, rfl⟩
      have HD : Hid (Rt 101 #[.slice (some ⟨gy, 0, none⟩) W W, .slice (some ⟨gx, 0, none⟩) W W] w3 (.bool d)) := by unfold Hid; rw [hd]; exact rbelow HY3.out HX3.out h2 hm hn
      have HC : Hid (cmpv 1 W n m = (!d)) := by unfold Hid; rw [hd]; rfl
      clear hd HY3 HX3
      go_wp2_with fail
      refine (HD.out).mono ?_
      rintro e w6 ⟨rfl, hb6⟩
      have hb6' := below_step (w := w) (by go_grown) hb6
      have hs6 := hb6'.size
      have KF6 : W3 w6 w.heap.size W n <| F3 w6 w.heap.size <| W3 w6 (w.heap.size + 1) W m <| F3 w6 (w.heap.size + 1) <| S3 w6 (w.heap.size + 1 + 1) <| F3 w6 (w.heap.size + 1 + 1) <| True := (by refine k3 hb6 ?_ ?_ ?_ <| f3 hb6 ?_ ?_ <| k3 hb6 ?_ ?_ ?_ <| f3 hb6 ?_ ?_ <| s3 hb6 ?_ ?_ ?_ <| f3 hb6 ?_ ?_ <| trivial <;> (first | (simp [go_sem]; done) | (simp [go_sem, KF3]; done) | (simp [go_sem, KF3, World.cell?_alloc_some, frozen?_alloc_cells]; done))); have KF6z0 := zT KF6; have KF6z1 := zT KF6.2.2.2.2; have KF6z2 := zT KF6.2.2.2.2.2.2.2.2
      clear hb6 KF3
      go_wp2_with fail
      refine (refbool_b (!d) _).mono ?_
      rintro e w7 ⟨rfl, hb7⟩
      have hb7' := below_step (w := w) (by go_grown) hb7
      have hs7 := hb7'.size
      have KF7 : W3 w7 w.heap.size W n <| F3 w7 w.heap.size <| W3 w7 (w.heap.size + 1) W m <| F3 w7 (w.heap.size + 1) <| S3 w7 (w.heap.size + 1 + 1) <| F3 w7 (w.heap.size + 1 + 1) <| True := (by refine k3 hb7 ?_ ?_ ?_ <| f3 hb7 ?_ ?_ <| k3 hb7 ?_ ?_ ?_ <| f3 hb7 ?_ ?_ <| s3 hb7 ?_ ?_ ?_ <| f3 hb7 ?_ ?_ <| trivial <;> (first | (simp [go_sem]; done) | (simp [go_sem, KF6]; done) | (simp [go_sem, KF6, World.cell?_alloc_some, frozen?_alloc_cells]; done))); have KF7z0 := zT KF7; have KF7z1 := zT KF7.2.2.2.2; have KF7z2 := zT KF7.2.2.2.2.2.2.2.2
      clear hb7 KF6
      go_wp2_with fail
      refine bodyPost_ret (v := .tuple #[.agg #[.int .i64 0, .int .u64 (LO (b01 (!d))), .int .u64 (HI (b01 (!d)))], .int .i64 0]) (by simp [results, Tryz.results59, go_sem, KF7]) rfl ?_
      exact ⟨by rw [HC.out], by go_grown⟩
    · skip
      have hco : (29 : Int) + ((2 : Nat) : Int) = 31 := rfl
      rw [hco]
      clear hco
      obtain ⟨d, hd⟩ : ∃ d, d = decide (m < n) := ⟨_, rfl⟩
      have HD : Hid (Rt 101 #[.slice (some ⟨gy, 0, none⟩) W W, .slice (some ⟨gx, 0, none⟩) W W] w3 (.bool d)) := by unfold Hid; rw [hd]; exact rbelow HY3.out HX3.out h2 hm hn
      have HC : Hid (cmpv 2 W n m = d) := by unfold Hid; rw [hd]; rfl
      clear hd HY3 HX3
      go_wp2_with fail
      refine (HD.out).mono ?_
      rintro e w8 ⟨rfl, hb8⟩
      have hb8' := below_step (w := w) (by go_grown) hb8
      have hs8 := hb8'.size
      have KF8 : W3 w8 w.heap.size W n <| F3 w8 w.heap.size <| W3 w8 (w.heap.size + 1) W m <| F3 w8 (w.heap.size + 1) <| S3 w8 (w.heap.size + 1 + 1) <| F3 w8 (w.heap.size + 1 + 1) <| True := (by refine k3 hb8 ?_ ?_ ?_ <| f3 hb8 ?_ ?_ <| k3 hb8 ?_ ?_ ?_ <| f3 hb8 ?_ ?_ <| s3 hb8 ?_ ?_ ?_ <| f3 hb8 ?_ ?_ <| trivial <;> (first | (simp [go_sem]; done) | (simp [go_sem, KF3]; done) | (simp [go_sem, KF3, World.cell?_alloc_some, frozen?_alloc_cells]; done))); have KF8z0 := zT KF8; have KF8z1 := zT KF8.2.2.2.2; have KF8z2 := zT KF8.2.2.2.2.2.2.2.2
      clear hb8 KF3
      go_wp2_with fail
      refine (refbool_b d _).mono ?_
      rintro e w9 ⟨rfl, hb9⟩
      have hb9' := below_step (w := w) (by go_grown) hb9
      have hs9 := hb9'.size
      have KF9 : W3 w9 w.heap.size W n <| F3 w9 w.heap.size <| W3 w9 (w.heap.size + 1) W m <| F3 w9 (w.heap.size + 1) <| S3 w9 (w.heap.size + 1 + 1) <| F3 w9 (w.heap.size + 1 + 1) <| True := (by refine k3 hb9 ?_ ?_ ?_ <| f3 hb9 ?_ ?_ <| k3 hb9 ?_ ?_ ?_ <| f3 hb9 ?_ ?_ <| s3 hb9 ?_ ?_ ?_ <| f3 hb9 ?_ ?_ <| trivial <;> (first | (simp [go_sem]; done) | (simp [go_sem, KF8]; done) | (simp [go_sem, KF8, World.cell?_alloc_some, frozen?_alloc_cells]; done))); have KF9z0 := zT KF9; have KF9z1 := zT KF9.2.2.2.2; have KF9z2 := zT KF9.2.2.2.2.2.2.2.2
      clear hb9 KF8
      go_wp2_with fail
      refine bodyPost_ret (v := .tuple #[.agg #[.int .i64 0, .int .u64 (LO (b01 d)), .int .u64 (HI (b01 d))], .int .i64 0]) (by simp [results, Tryz.results59, go_sem, KF9]) rfl ?_
      exact ⟨by rw [HC.out], by go_grown⟩
    · skip
      have hco : (29 : Int) + ((3 : Nat) : Int) = 32 := rfl
      rw [hco]
      clear hco
      obtain ⟨d, hd⟩ : ∃ d, d = decide (n < m) := ⟨_, rfl⟩
      have HD : Hid (Rt 101 #[.slice (some ⟨gx, 0, none⟩) W W, .slice (some ⟨gy, 0, none⟩) W W] w3 (.bool d)) := by unfold Hid; rw [hd]; exact rbelow HX3.out HY3.out h2 hn hm
      have HC : Hid (cmpv 3 W n m = (!d)) := by unfold Hid; rw [hd]; rfl
      clear hd HX3 HY3
      go_wp2_with fail
      refine (HD.out).mono ?_
      rintro e w10 ⟨rfl, hb10⟩
      have hb10' := below_step (w := w) (by go_grown) hb10
      have hs10 := hb10'.size
      have KF10 : W3 w10 w.heap.size W n <| F3 w10 w.heap.size <| W3 w10 (w.heap.size + 1) W m <| F3 w10 (w.heap.size + 1) <| S3 w10 (w.heap.size + 1 + 1) <| F3 w10 (w.heap.size + 1 + 1) <| True := (by refine k3 hb10 ?_ ?_ ?_ <| f3 hb10 ?_ ?_ <| k3 hb10 ?_ ?_ ?_ <| f3 hb10 ?_ ?_ <| s3 hb10 ?_ ?_ ?_ <| f3 hb10 ?_ ?_ <| trivial <;> (first | (simp [go_sem]; done) | (simp [go_sem, KF3]; done) | (simp [go_sem, KF3, World.cell?_alloc_some, frozen?_alloc_cells]; done))); have KF10z0 := zT KF10; have KF10z1 := zT KF10.2.2.2.2; have KF10z2 := zT KF10.2.2.2.2.2.2.2.2
      clear hb10 KF3
      go_wp2_with fail
      refine (refbool_b (!d) _).mono ?_
      rintro e w11 ⟨rfl, hb11⟩
      have hb11' := below_step (w := w) (by go_grown) hb11
      have hs11 := hb11'.size
      have KF11 : W3 w11 w.heap.size W n <| F3 w11 w.heap.size <| W3 w11 (w.heap.size + 1) W m <| F3 w11 (w.heap.size + 1) <| S3 w11 (w.heap.size + 1 + 1) <| F3 w11 (w.heap.size + 1 + 1) <| True := (by refine k3 hb11 ?_ ?_ ?_ <| f3 hb11 ?_ ?_ <| k3 hb11 ?_ ?_ ?_ <| f3 hb11 ?_ ?_ <| s3 hb11 ?_ ?_ ?_ <| f3 hb11 ?_ ?_ <| trivial <;> (first | (simp [go_sem]; done) | (simp [go_sem, KF10]; done) | (simp [go_sem, KF10, World.cell?_alloc_some, frozen?_alloc_cells]; done))); have KF11z0 := zT KF11; have KF11z1 := zT KF11.2.2.2.2; have KF11z2 := zT KF11.2.2.2.2.2.2.2.2
      clear hb11 KF10
      go_wp2_with fail
      refine bodyPost_ret (v := .tuple #[.agg #[.int .i64 0, .int .u64 (LO (b01 (!d))), .int .u64 (HI (b01 (!d)))], .int .i64 0]) (by simp [results, Tryz.results59, go_sem, KF11]) rfl ?_
      exact ⟨by rw [HC.out], by go_grown⟩
    · skip
      have hco : (29 : Int) + ((4 : Nat) : Int) = 33 := rfl
      rw [hco]
      clear hco
      go_wp2_with fail
      refine (rturned HX3.out h1 h2).mono ?_
      rintro e w12 ⟨rx, cx, rfl, hRx, hb12⟩
      have hb12' := below_step (w := w) (by go_grown) hb12
      have hs12 := hb12'.size
      have HX4 : Hid (Rd w12 rx W (bl W (top W n))) := hRx; have HY4 : Hid (Rd w12 gy W (bl W m)) := Rd.keep HY3.out hb12; clear hRx HX3 HY3
      have KF12 : W3 w12 w.heap.size W n <| F3 w12 w.heap.size <| W3 w12 (w.heap.size + 1) W m <| F3 w12 (w.heap.size + 1) <| S3 w12 (w.heap.size + 1 + 1) <| F3 w12 (w.heap.size + 1 + 1) <| True := (by refine k3 hb12 ?_ ?_ ?_ <| f3 hb12 ?_ ?_ <| k3 hb12 ?_ ?_ ?_ <| f3 hb12 ?_ ?_ <| s3 hb12 ?_ ?_ ?_ <| f3 hb12 ?_ ?_ <| trivial <;> (first | (simp [go_sem]; done) | (simp [go_sem, KF3]; done) | (simp [go_sem, KF3, World.cell?_alloc_some, frozen?_alloc_cells]; done))); have KF12z0 := zT KF12; have KF12z1 := zT KF12.2.2.2.2; have KF12z2 := zT KF12.2.2.2.2.2.2.2.2
      clear hb12 KF3
      go_wp2_with fail
      refine (rturned HY4.out h1 h2).mono ?_
      rintro e w13 ⟨ry, cy, rfl, hRy, hb13⟩
      have hb13' := below_step (w := w) (by go_grown) hb13
      have hs13 := hb13'.size
      have HY5 : Hid (Rd w13 ry W (bl W (top W m))) := hRy; have HX5 : Hid (Rd w13 rx W (bl W (top W n))) := Rd.keep HX4.out hb13; clear hRy HX4 HY4
      have KF13 : W3 w13 w.heap.size W n <| F3 w13 w.heap.size <| W3 w13 (w.heap.size + 1) W m <| F3 w13 (w.heap.size + 1) <| S3 w13 (w.heap.size + 1 + 1) <| F3 w13 (w.heap.size + 1 + 1) <| True := (by refine k3 hb13 ?_ ?_ ?_ <| f3 hb13 ?_ ?_ <| k3 hb13 ?_ ?_ ?_ <| f3 hb13 ?_ ?_ <| s3 hb13 ?_ ?_ ?_ <| f3 hb13 ?_ ?_ <| trivial <;> (first | (simp [go_sem]; done) | (simp [go_sem, KF12]; done) | (simp [go_sem, KF12, World.cell?_alloc_some, frozen?_alloc_cells]; done))); have KF13z0 := zT KF13; have KF13z1 := zT KF13.2.2.2.2; have KF13z2 := zT KF13.2.2.2.2.2.2.2.2
      clear hb13 KF12
      obtain ⟨d, hd⟩ : ∃ d, d = decide (top W n < top W m) := ⟨_, rfl⟩
      have HD : Hid (Rt 101 #[.slice (some ⟨rx, 0, none⟩) W cx, .slice (some ⟨ry, 0, none⟩) W cy] w13 (.bool d)) := by unfold Hid; rw [hd]; exact rbelow HX5.out HY5.out h2 (top_lt h1 hn) (top_lt h1 hm)
      have HC : Hid (cmpv 4 W n m = d) := by unfold Hid; rw [hd]; rfl
      clear hd HX5 HY5
      go_wp2_with fail
      refine (HD.out).mono ?_
      rintro e w14 ⟨rfl, hb14⟩
      have hb14' := below_step (w := w) (by go_grown) hb14
      have hs14 := hb14'.size
      have KF14 : W3 w14 w.heap.size W n <| F3 w14 w.heap.size <| W3 w14 (w.heap.size + 1) W m <| F3 w14 (w.heap.size + 1) <| S3 w14 (w.heap.size + 1 + 1) <| F3 w14 (w.heap.size + 1 + 1) <| True := (by refine k3 hb14 ?_ ?_ ?_ <| f3 hb14 ?_ ?_ <| k3 hb14 ?_ ?_ ?_ <| f3 hb14 ?_ ?_ <| s3 hb14 ?_ ?_ ?_ <| f3 hb14 ?_ ?_ <| trivial <;> (first | (simp [go_sem]; done) | (simp [go_sem, KF13]; done) | (simp [go_sem, KF13, World.cell?_alloc_some, frozen?_alloc_cells]; done))); have KF14z0 := zT KF14; have KF14z1 := zT KF14.2.2.2.2; have KF14z2 := zT KF14.2.2.2.2.2.2.2.2
      clear hb14 KF13
      go_wp2_with fail
      refine (refbool_b d _).mono ?_
      rintro e w15 ⟨rfl, hb15⟩
      have hb15' := below_step (w := w) (by go_grown) hb15
      have hs15 := hb15'.size
      have KF15 : W3 w15 w.heap.size W n <| F3 w15 w.heap.size <| W3 w15 (w.heap.size + 1) W m <| F3 w15 (w.heap.size + 1) <| S3 w15 (w.heap.size + 1 + 1) <| F3 w15 (w.heap.size + 1 + 1) <| True := (by refine k3 hb15 ?_ ?_ ?_ <| f3 hb15 ?_ ?_ <| k3 hb15 ?_ ?_ ?_ <| f3 hb15 ?_ ?_ <| s3 hb15 ?_ ?_ ?_ <| f3 hb15 ?_ ?_ <| trivial <;> (first | (simp [go_sem]; done) | (simp [go_sem, KF14]; done) | (simp [go_sem, KF14, World.cell?_alloc_some, frozen?_alloc_cells]; done))); have KF15z0 := zT KF15; have KF15z1 := zT KF15.2.2.2.2; have KF15z2 := zT KF15.2.2.2.2.2.2.2.2
      clear hb15 KF14
      go_wp2_with fail
      refine bodyPost_ret (v := .tuple #[.agg #[.int .i64 0, .int .u64 (LO (b01 d)), .int .u64 (HI (b01 d))], .int .i64 0]) (by simp [results, Tryz.results59, go_sem, KF15]) rfl ?_
      exact ⟨by rw [HC.out], by go_grown⟩
    · skip
      have hco : (29 : Int) + ((5 : Nat) : Int) = 34 := rfl
      rw [hco]
      clear hco
      go_wp2_with fail
      refine (rturned HX3.out h1 h2).mono ?_
      rintro e w16 ⟨rx, cx, rfl, hRx, hb16⟩
      have hb16' := below_step (w := w) (by go_grown) hb16
      have hs16 := hb16'.size
      have HX4 : Hid (Rd w16 rx W (bl W (top W n))) := hRx; have HY4 : Hid (Rd w16 gy W (bl W m)) := Rd.keep HY3.out hb16; clear hRx HX3 HY3
      have KF16 : W3 w16 w.heap.size W n <| F3 w16 w.heap.size <| W3 w16 (w.heap.size + 1) W m <| F3 w16 (w.heap.size + 1) <| S3 w16 (w.heap.size + 1 + 1) <| F3 w16 (w.heap.size + 1 + 1) <| True := (by refine k3 hb16 ?_ ?_ ?_ <| f3 hb16 ?_ ?_ <| k3 hb16 ?_ ?_ ?_ <| f3 hb16 ?_ ?_ <| s3 hb16 ?_ ?_ ?_ <| f3 hb16 ?_ ?_ <| trivial <;> (first | (simp [go_sem]; done) | (simp [go_sem, KF3]; done) | (simp [go_sem, KF3, World.cell?_alloc_some, frozen?_alloc_cells]; done))); have KF16z0 := zT KF16; have KF16z1 := zT KF16.2.2.2.2; have KF16z2 := zT KF16.2.2.2.2.2.2.2.2
      clear hb16 KF3
      go_wp2_with fail
      refine (rturned HY4.out h1 h2).mono ?_
      rintro e w17 ⟨ry, cy, rfl, hRy, hb17⟩
      have hb17' := below_step (w := w) (by go_grown) hb17
      have hs17 := hb17'.size
      have HY5 : Hid (Rd w17 ry W (bl W (top W m))) := hRy; have HX5 : Hid (Rd w17 rx W (bl W (top W n))) := Rd.keep HX4.out hb17; clear hRy HX4 HY4
      have KF17 : W3 w17 w.heap.size W n <| F3 w17 w.heap.size <| W3 w17 (w.heap.size + 1) W m <| F3 w17 (w.heap.size + 1) <| S3 w17 (w.heap.size + 1 + 1) <| F3 w17 (w.heap.size + 1 + 1) <| True := (by refine k3 hb17 ?_ ?_ ?_ <| f3 hb17 ?_ ?_ <| k3 hb17 ?_ ?_ ?_ <| f3 hb17 ?_ ?_ <| s3 hb17 ?_ ?_ ?_ <| f3 hb17 ?_ ?_ <| trivial <;> (first | (simp [go_sem]; done) | (simp [go_sem, KF16]; done) | (simp [go_sem, KF16, World.cell?_alloc_some, frozen?_alloc_cells]; done))); have KF17z0 := zT KF17; have KF17z1 := zT KF17.2.2.2.2; have KF17z2 := zT KF17.2.2.2.2.2.2.2.2
      clear hb17 KF16
      obtain ⟨d, hd⟩ : ∃ d, d = decide (top W m < top W n) := ⟨_, rfl⟩
      have HD : Hid (Rt 101 #[.slice (some ⟨ry, 0, none⟩) W cy, .slice (some ⟨rx, 0, none⟩) W cx] w17 (.bool d)) := by unfold Hid; rw [hd]; exact rbelow HY5.out HX5.out h2 (top_lt h1 hm) (top_lt h1 hn)
      have HC : Hid (cmpv 5 W n m = (!d)) := by unfold Hid; rw [hd]; rfl
      clear hd HY5 HX5
      go_wp2_with fail
      refine (HD.out).mono ?_
      rintro e w18 ⟨rfl, hb18⟩
      have hb18' := below_step (w := w) (by go_grown) hb18
      have hs18 := hb18'.size
      have KF18 : W3 w18 w.heap.size W n <| F3 w18 w.heap.size <| W3 w18 (w.heap.size + 1) W m <| F3 w18 (w.heap.size + 1) <| S3 w18 (w.heap.size + 1 + 1) <| F3 w18 (w.heap.size + 1 + 1) <| True := (by refine k3 hb18 ?_ ?_ ?_ <| f3 hb18 ?_ ?_ <| k3 hb18 ?_ ?_ ?_ <| f3 hb18 ?_ ?_ <| s3 hb18 ?_ ?_ ?_ <| f3 hb18 ?_ ?_ <| trivial <;> (first | (simp [go_sem]; done) | (simp [go_sem, KF17]; done) | (simp [go_sem, KF17, World.cell?_alloc_some, frozen?_alloc_cells]; done))); have KF18z0 := zT KF18; have KF18z1 := zT KF18.2.2.2.2; have KF18z2 := zT KF18.2.2.2.2.2.2.2.2
      clear hb18 KF17
      go_wp2_with fail
      refine (refbool_b (!d) _).mono ?_
      rintro e w19 ⟨rfl, hb19⟩
      have hb19' := below_step (w := w) (by go_grown) hb19
      have hs19 := hb19'.size
      have KF19 : W3 w19 w.heap.size W n <| F3 w19 w.heap.size <| W3 w19 (w.heap.size + 1) W m <| F3 w19 (w.heap.size + 1) <| S3 w19 (w.heap.size + 1 + 1) <| F3 w19 (w.heap.size + 1 + 1) <| True := (by refine k3 hb19 ?_ ?_ ?_ <| f3 hb19 ?_ ?_ <| k3 hb19 ?_ ?_ ?_ <| f3 hb19 ?_ ?_ <| s3 hb19 ?_ ?_ ?_ <| f3 hb19 ?_ ?_ <| trivial <;> (first | (simp [go_sem]; done) | (simp [go_sem, KF18]; done) | (simp [go_sem, KF18, World.cell?_alloc_some, frozen?_alloc_cells]; done))); have KF19z0 := zT KF19; have KF19z1 := zT KF19.2.2.2.2; have KF19z2 := zT KF19.2.2.2.2.2.2.2.2
      clear hb19 KF18
      go_wp2_with fail
      refine bodyPost_ret (v := .tuple #[.agg #[.int .i64 0, .int .u64 (LO (b01 (!d))), .int .u64 (HI (b01 (!d)))], .int .i64 0]) (by simp [results, Tryz.results59, go_sem, KF19]) rfl ?_
      exact ⟨by rw [HC.out], by go_grown⟩
    · skip
      have hco : (29 : Int) + ((6 : Nat) : Int) = 35 := rfl
      rw [hco]
      clear hco
      go_wp2_with fail
      refine (rturned HX3.out h1 h2).mono ?_
      rintro e w20 ⟨rx, cx, rfl, hRx, hb20⟩
      have hb20' := below_step (w := w) (by go_grown) hb20
      have hs20 := hb20'.size
      have HX4 : Hid (Rd w20 rx W (bl W (top W n))) := hRx; have HY4 : Hid (Rd w20 gy W (bl W m)) := Rd.keep HY3.out hb20; clear hRx HX3 HY3
      have KF20 : W3 w20 w.heap.size W n <| F3 w20 w.heap.size <| W3 w20 (w.heap.size + 1) W m <| F3 w20 (w.heap.size + 1) <| S3 w20 (w.heap.size + 1 + 1) <| F3 w20 (w.heap.size + 1 + 1) <| True := (by refine k3 hb20 ?_ ?_ ?_ <| f3 hb20 ?_ ?_ <| k3 hb20 ?_ ?_ ?_ <| f3 hb20 ?_ ?_ <| s3 hb20 ?_ ?_ ?_ <| f3 hb20 ?_ ?_ <| trivial <;> (first | (simp [go_sem]; done) | (simp [go_sem, KF3]; done) | (simp [go_sem, KF3, World.cell?_alloc_some, frozen?_alloc_cells]; done))); have KF20z0 := zT KF20; have KF20z1 := zT KF20.2.2.2.2; have KF20z2 := zT KF20.2.2.2.2.2.2.2.2
      clear hb20 KF3
      go_wp2_with fail
      refine (rturned HY4.out h1 h2).mono ?_
      rintro e w21 ⟨ry, cy, rfl, hRy, hb21⟩
      have hb21' := below_step (w := w) (by go_grown) hb21
      have hs21 := hb21'.size
      have HY5 : Hid (Rd w21 ry W (bl W (top W m))) := hRy; have HX5 : Hid (Rd w21 rx W (bl W (top W n))) := Rd.keep HX4.out hb21; clear hRy HX4 HY4
      have KF21 : W3 w21 w.heap.size W n <| F3 w21 w.heap.size <| W3 w21 (w.heap.size + 1) W m <| F3 w21 (w.heap.size + 1) <| S3 w21 (w.heap.size + 1 + 1) <| F3 w21 (w.heap.size + 1 + 1) <| True := (by refine k3 hb21 ?_ ?_ ?_ <| f3 hb21 ?_ ?_ <| k3 hb21 ?_ ?_ ?_ <| f3 hb21 ?_ ?_ <| s3 hb21 ?_ ?_ ?_ <| f3 hb21 ?_ ?_ <| trivial <;> (first | (simp [go_sem]; done) | (simp [go_sem, KF20]; done) | (simp [go_sem, KF20, World.cell?_alloc_some, frozen?_alloc_cells]; done))); have KF21z0 := zT KF21; have KF21z1 := zT KF21.2.2.2.2; have KF21z2 := zT KF21.2.2.2.2.2.2.2.2
      clear hb21 KF20
      obtain ⟨d, hd⟩ : ∃ d, d = decide (top W m < top W n) := ⟨_, rfl⟩
      have HD : Hid (Rt 101 #[.slice (some ⟨ry, 0, none⟩) W cy, .slice (some ⟨rx, 0, none⟩) W cx] w21 (.bool d)) := by unfold Hid; rw [hd]; exact rbelow HY5.out HX5.out h2 (top_lt h1 hm) (top_lt h1 hn)
      have HC : Hid (cmpv 6 W n m = d) := by unfold Hid; rw [hd]; rfl
      clear hd HY5 HX5
      go_wp2_with fail
      refine (HD.out).mono ?_
      rintro e w22 ⟨rfl, hb22⟩
      have hb22' := below_step (w := w) (by go_grown) hb22
      have hs22 := hb22'.size
      have KF22 : W3 w22 w.heap.size W n <| F3 w22 w.heap.size <| W3 w22 (w.heap.size + 1) W m <| F3 w22 (w.heap.size + 1) <| S3 w22 (w.heap.size + 1 + 1) <| F3 w22 (w.heap.size + 1 + 1) <| True := (by refine k3 hb22 ?_ ?_ ?_ <| f3 hb22 ?_ ?_ <| k3 hb22 ?_ ?_ ?_ <| f3 hb22 ?_ ?_ <| s3 hb22 ?_ ?_ ?_ <| f3 hb22 ?_ ?_ <| trivial <;> (first | (simp [go_sem]; done) | (simp [go_sem, KF21]; done) | (simp [go_sem, KF21, World.cell?_alloc_some, frozen?_alloc_cells]; done))); have KF22z0 := zT KF22; have KF22z1 := zT KF22.2.2.2.2; have KF22z2 := zT KF22.2.2.2.2.2.2.2.2
      clear hb22 KF21
      go_wp2_with fail
      refine (refbool_b d _).mono ?_
      rintro e w23 ⟨rfl, hb23⟩
      have hb23' := below_step (w := w) (by go_grown) hb23
      have hs23 := hb23'.size
      have KF23 : W3 w23 w.heap.size W n <| F3 w23 w.heap.size <| W3 w23 (w.heap.size + 1) W m <| F3 w23 (w.heap.size + 1) <| S3 w23 (w.heap.size + 1 + 1) <| F3 w23 (w.heap.size + 1 + 1) <| True := (by refine k3 hb23 ?_ ?_ ?_ <| f3 hb23 ?_ ?_ <| k3 hb23 ?_ ?_ ?_ <| f3 hb23 ?_ ?_ <| s3 hb23 ?_ ?_ ?_ <| f3 hb23 ?_ ?_ <| trivial <;> (first | (simp [go_sem]; done) | (simp [go_sem, KF22]; done) | (simp [go_sem, KF22, World.cell?_alloc_some, frozen?_alloc_cells]; done))); have KF23z0 := zT KF23; have KF23z1 := zT KF23.2.2.2.2; have KF23z2 := zT KF23.2.2.2.2.2.2.2.2
      clear hb23 KF22
      go_wp2_with fail
      refine bodyPost_ret (v := .tuple #[.agg #[.int .i64 0, .int .u64 (LO (b01 d)), .int .u64 (HI (b01 d))], .int .i64 0]) (by simp [results, Tryz.results59, go_sem, KF23]) rfl ?_
      exact ⟨by rw [HC.out], by go_grown⟩
    · skip
      have hco : (29 : Int) + ((7 : Nat) : Int) = 36 := rfl
      rw [hco]
      clear hco
      go_wp2_with fail
      refine (rturned HX3.out h1 h2).mono ?_
      rintro e w24 ⟨rx, cx, rfl, hRx, hb24⟩
      have hb24' := below_step (w := w) (by go_grown) hb24
      have hs24 := hb24'.size
      have HX4 : Hid (Rd w24 rx W (bl W (top W n))) := hRx; have HY4 : Hid (Rd w24 gy W (bl W m)) := Rd.keep HY3.out hb24; clear hRx HX3 HY3
      have KF24 : W3 w24 w.heap.size W n <| F3 w24 w.heap.size <| W3 w24 (w.heap.size + 1) W m <| F3 w24 (w.heap.size + 1) <| S3 w24 (w.heap.size + 1 + 1) <| F3 w24 (w.heap.size + 1 + 1) <| True := (by refine k3 hb24 ?_ ?_ ?_ <| f3 hb24 ?_ ?_ <| k3 hb24 ?_ ?_ ?_ <| f3 hb24 ?_ ?_ <| s3 hb24 ?_ ?_ ?_ <| f3 hb24 ?_ ?_ <| trivial <;> (first | (simp [go_sem]; done) | (simp [go_sem, KF3]; done) | (simp [go_sem, KF3, World.cell?_alloc_some, frozen?_alloc_cells]; done))); have KF24z0 := zT KF24; have KF24z1 := zT KF24.2.2.2.2; have KF24z2 := zT KF24.2.2.2.2.2.2.2.2
      clear hb24 KF3
      go_wp2_with fail
      refine (rturned HY4.out h1 h2).mono ?_
      rintro e w25 ⟨ry, cy, rfl, hRy, hb25⟩
      have hb25' := below_step (w := w) (by go_grown) hb25
      have hs25 := hb25'.size
      have HY5 : Hid (Rd w25 ry W (bl W (top W m))) := hRy; have HX5 : Hid (Rd w25 rx W (bl W (top W n))) := Rd.keep HX4.out hb25; clear hRy HX4 HY4
      have KF25 : W3 w25 w.heap.size W n <| F3 w25 w.heap.size <| W3 w25 (w.heap.size + 1) W m <| F3 w25 (w.heap.size + 1) <| S3 w25 (w.heap.size + 1 + 1) <| F3 w25 (w.heap.size + 1 + 1) <| True := (by refine k3 hb25 ?_ ?_ ?_ <| f3 hb25 ?_ ?_ <| k3 hb25 ?_ ?_ ?_ <| f3 hb25 ?_ ?_ <| s3 hb25 ?_ ?_ ?_ <| f3 hb25 ?_ ?_ <| trivial <;> (first | (simp [go_sem]; done) | (simp [go_sem, KF24]; done) | (simp [go_sem, KF24, World.cell?_alloc_some, frozen?_alloc_cells]; done))); have KF25z0 := zT KF25; have KF25z1 := zT KF25.2.2.2.2; have KF25z2 := zT KF25.2.2.2.2.2.2.2.2
      clear hb25 KF24
      obtain ⟨d, hd⟩ : ∃ d, d = decide (top W n < top W m) := ⟨_, rfl⟩
      have HD : Hid (Rt 101 #[.slice (some ⟨rx, 0, none⟩) W cx, .slice (some ⟨ry, 0, none⟩) W cy] w25 (.bool d)) := by unfold Hid; rw [hd]; exact rbelow HX5.out HY5.out h2 (top_lt h1 hn) (top_lt h1 hm)
      have HC : Hid (cmpv 7 W n m = (!d)) := by unfold Hid; rw [hd]; rfl
      clear hd HX5 HY5
      go_wp2_with fail
      refine (HD.out).mono ?_
      rintro e w26 ⟨rfl, hb26⟩
      have hb26' := below_step (w := w) (by go_grown) hb26
      have hs26 := hb26'.size
      have KF26 : W3 w26 w.heap.size W n <| F3 w26 w.heap.size <| W3 w26 (w.heap.size + 1) W m <| F3 w26 (w.heap.size + 1) <| S3 w26 (w.heap.size + 1 + 1) <| F3 w26 (w.heap.size + 1 + 1) <| True := (by refine k3 hb26 ?_ ?_ ?_ <| f3 hb26 ?_ ?_ <| k3 hb26 ?_ ?_ ?_ <| f3 hb26 ?_ ?_ <| s3 hb26 ?_ ?_ ?_ <| f3 hb26 ?_ ?_ <| trivial <;> (first | (simp [go_sem]; done) | (simp [go_sem, KF25]; done) | (simp [go_sem, KF25, World.cell?_alloc_some, frozen?_alloc_cells]; done))); have KF26z0 := zT KF26; have KF26z1 := zT KF26.2.2.2.2; have KF26z2 := zT KF26.2.2.2.2.2.2.2.2
      clear hb26 KF25
      go_wp2_with fail
      refine (refbool_b (!d) _).mono ?_
      rintro e w27 ⟨rfl, hb27⟩
      have hb27' := below_step (w := w) (by go_grown) hb27
      have hs27 := hb27'.size
      have KF27 : W3 w27 w.heap.size W n <| F3 w27 w.heap.size <| W3 w27 (w.heap.size + 1) W m <| F3 w27 (w.heap.size + 1) <| S3 w27 (w.heap.size + 1 + 1) <| F3 w27 (w.heap.size + 1 + 1) <| True := (by refine k3 hb27 ?_ ?_ ?_ <| f3 hb27 ?_ ?_ <| k3 hb27 ?_ ?_ ?_ <| f3 hb27 ?_ ?_ <| s3 hb27 ?_ ?_ ?_ <| f3 hb27 ?_ ?_ <| trivial <;> (first | (simp [go_sem]; done) | (simp [go_sem, KF26]; done) | (simp [go_sem, KF26, World.cell?_alloc_some, frozen?_alloc_cells]; done))); have KF27z0 := zT KF27; have KF27z1 := zT KF27.2.2.2.2; have KF27z2 := zT KF27.2.2.2.2.2.2.2.2
      clear hb27 KF26
      go_wp2_with fail
      refine bodyPost_ret (v := .tuple #[.agg #[.int .i64 0, .int .u64 (LO (b01 (!d))), .int .u64 (HI (b01 (!d)))], .int .i64 0]) (by simp [results, Tryz.results59, go_sem, KF27]) rfl ?_
      exact ⟨by rw [HC.out], by go_grown⟩
end Go.Proofs.YtnflphhckgeneaaGreat
