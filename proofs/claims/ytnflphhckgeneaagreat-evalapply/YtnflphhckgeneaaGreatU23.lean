/- Contracts: the document's operators on two words: the same, as a word of one bit. -/
import Derived.Deep.CutRange
import Derived.Test.YtnflphhckgeneaaGreatU21
import Derived.Test.YtnflphhckgeneaaGreatO2
namespace Go.Proofs.YtnflphhckgeneaaGreat
set_option maxHeartbeats 12800000
set_option maxRecDepth 100000
open Go.RowKit
set_option linter.unusedSimpArgs false
set_option linter.unusedVariables false

theorem Rd.lit {w : World} (c : Bool) : Rd (w.alloc (.cells #[.bool c] 4)) w.heap.size 1 (bl 1 (b01 c)) := by
  refine ⟨bl_len _ _, by simp, fun j hj => ?_⟩
  obtain rfl : j = 0 := by omega
  cases c <;> simp [go_sem, bl, b01]

theorem reftwo_comp {W n m : Nat} {c : Bool} (hc : eqB n m = c) (h1 : 1 ≤ W) (h2 : W ≤ 128) (hn : n < 2 ^ W) (hm : m < 2 ^ W) (w : World) :
    Rt 59 #[.int .i64 37, .agg #[.int .i64 W, .int .u64 (LO (n)), .int .u64 (HI (n))], .agg #[.int .i64 W, .int .u64 (LO (m)), .int .u64 (HI (m))]] w (.tuple #[.agg #[.int .i64 1, .int .u64 (LO (b01 c)), .int .u64 (HI (b01 c))], .int .i64 0]) := by
  have hq : ∀ w, (binOp .eql 34 (.agg #[.int .i64 W, .int .u64 (LO (n)), .int .u64 (HI (n))]) (.agg #[.int .i64 W, .int .u64 (LO (m)), .int .u64 (HI (m))])).run Tryz.prog w = .ok (.bool c) w := fun w => by rw [← hc]; exact eq_w W n m w
  clear hc
  have hn8 : n < 2 ^ 128 := Nat.lt_of_lt_of_le hn (pow_le_128 h2)
  have hm8 : m < 2 ^ 128 := Nat.lt_of_lt_of_le hm (pow_le_128 h2)
  go_enter Tryz.func59, Tryz.ntmps59
  go_wp2_with fail
  refine (refword_yes h1 h2 hn _).mono ?_
  rintro e w1 ⟨rfl, hb1⟩
  have hb1' := below_step (w := w) (by go_grown) hb1
  have hs1 := hb1'.size
  have KF1 : W3 w1 w.heap.size W n <| F3 w1 w.heap.size <| W3 w1 (w.heap.size + 1) W m <| F3 w1 (w.heap.size + 1) <| S3 w1 (w.heap.size + 1 + 1) <| F3 w1 (w.heap.size + 1 + 1) <| True := (by refine k3 hb1 ?_ ?_ ?_ <| f3 hb1 ?_ ?_ <| k3 hb1 ?_ ?_ ?_ <| f3 hb1 ?_ ?_ <| s3 hb1 ?_ ?_ ?_ <| f3 hb1 ?_ ?_ <| trivial <;> (first | (simp [go_sem]; done))); have KF1z0 := zT KF1; have KF1z1 := zT KF1.2.2.2.2; have KF1z2 := zT KF1.2.2.2.2.2.2.2.2
  clear hb1
  go_wp2_with fail
  refine (refword_yes h1 h2 hm _).mono ?_
  rintro e w2 ⟨rfl, hb2⟩
  have hb2' := below_step (w := w) (by go_grown) hb2
  have hs2 := hb2'.size
  have KF2 : W3 w2 w.heap.size W n <| F3 w2 w.heap.size <| W3 w2 (w.heap.size + 1) W m <| F3 w2 (w.heap.size + 1) <| S3 w2 (w.heap.size + 1 + 1) <| F3 w2 (w.heap.size + 1 + 1) <| True := (by refine k3 hb2 ?_ ?_ ?_ <| f3 hb2 ?_ ?_ <| k3 hb2 ?_ ?_ ?_ <| f3 hb2 ?_ ?_ <| s3 hb2 ?_ ?_ ?_ <| f3 hb2 ?_ ?_ <| trivial <;> (first | (simp [go_sem]; done) | (simp [go_sem, KF1]; done) | (simp [go_sem, KF1, World.cell?_alloc_some, frozen?_alloc_cells]; done))); have KF2z0 := zT KF2; have KF2z1 := zT KF2.2.2.2.2; have KF2z2 := zT KF2.2.2.2.2.2.2.2.2
  clear hb2 KF1
  go_upto_region 3 with fail
  go_cut [8, 9] (fun u v wx => ∃ gx gy : Nat, u = .slice (some ⟨gx, 0, none⟩) W W ∧ v = .slice (some ⟨gy, 0, none⟩) W W ∧ Rd wx gx W (bl W n) ∧ Rd wx gy W (bl W m) ∧ (wx.cell? ⟨w.heap.size, 0, none⟩ = some (.int .i64 W) ∧ wx.cell? ⟨w.heap.size, 1, none⟩ = some (.int .u64 (LO n)) ∧ wx.cell? ⟨w.heap.size, 2, none⟩ = some (.int .u64 (HI n)) ∧ (∀ o, wx.frozen? ⟨w.heap.size, o, none⟩ = false) ∧ wx.cell? ⟨w.heap.size + 1, 0, none⟩ = some (.int .i64 W) ∧ wx.cell? ⟨w.heap.size + 1, 1, none⟩ = some (.int .u64 (LO m)) ∧ wx.cell? ⟨w.heap.size + 1, 2, none⟩ = some (.int .u64 (HI m)) ∧ (∀ o, wx.frozen? ⟨w.heap.size + 1, o, none⟩ = false) ∧ wx.cell? ⟨w.heap.size + 1 + 1, 0, none⟩ = some (cv wx ⟨w.heap.size + 1 + 1, 0, none⟩) ∧ wx.cell? ⟨w.heap.size + 1 + 1, 1, none⟩ = some (cv wx ⟨w.heap.size + 1 + 1, 1, none⟩) ∧ wx.cell? ⟨w.heap.size + 1 + 1, 2, none⟩ = some (cv wx ⟨w.heap.size + 1 + 1, 2, none⟩) ∧ (∀ o, wx.frozen? ⟨w.heap.size + 1 + 1, o, none⟩ = false)) ∧ Below w.heap.size w wx)
  case first =>
    go_wp2_with fail
    go_region_with ((first | (go_at_call_of 50 (LO n); refine (bits_own (W := W) (n := n) h2 hn8 rfl rfl rfl _).mono ?_; rintro e wq ⟨gx, rfl, hBx, hb⟩; have hb' := below_step (w := w) (by go_grown) hb; have hs := hb'.size; have KFr : W3 wq w.heap.size W n <| F3 wq w.heap.size <| W3 wq (w.heap.size + 1) W m <| F3 wq (w.heap.size + 1) <| S3 wq (w.heap.size + 1 + 1) <| (∀ o, wq.frozen? ⟨w.heap.size + 1 + 1, o, none⟩ = false) := (by refine k3 hb ?_ ?_ ?_ <| f3 hb ?_ ?_ <| k3 hb ?_ ?_ ?_ <| f3 hb ?_ ?_ <| s3 hb ?_ ?_ ?_ <| keep_frozen2 hb ?_ ?_ <;> (first | (simp [go_sem]; done) | (simp [go_sem, KFr]; done) | (simp [go_sem, KF2]; done) | (simp [go_sem, KFr, World.cell?_alloc_some]; done) | (simp [go_sem, KF2, World.cell?_alloc_some]; done) | (simp [go_sem, KFr, frozen?_alloc_cells]; done) | (simp [go_sem, KF2, frozen?_alloc_cells]; done))); have KFrz0 : w.heap.size < wq.heap.size := World.block_lt_of_cell? _ _ KFr.1; have KFrz1 : w.heap.size + 1 < wq.heap.size := World.block_lt_of_cell? _ _ KFr.2.2.2.2.1; have KFrz2 : w.heap.size + 1 + 1 < wq.heap.size := World.block_lt_of_cell? _ _ KFr.2.2.2.2.2.2.2.2.1; have HX : Hid (Rd wq gx W (bl W n)) := Bs.rd hBx (bl_len W _).symm; (try replace HY : Hid (Rd wq _ W (bl W m)) := Rd.keep HY.out hb); clear hBx; clear hb) | (go_at_call_of 50 (LO m); refine (bits_own (W := W) (n := m) h2 hm8 rfl rfl rfl _).mono ?_; rintro e wq ⟨gy, rfl, hBy, hb⟩; have hb' := below_step (w := w) (by go_grown) hb; have hs := hb'.size; have KFr : W3 wq w.heap.size W n <| F3 wq w.heap.size <| W3 wq (w.heap.size + 1) W m <| F3 wq (w.heap.size + 1) <| S3 wq (w.heap.size + 1 + 1) <| (∀ o, wq.frozen? ⟨w.heap.size + 1 + 1, o, none⟩ = false) := (by refine k3 hb ?_ ?_ ?_ <| f3 hb ?_ ?_ <| k3 hb ?_ ?_ ?_ <| f3 hb ?_ ?_ <| s3 hb ?_ ?_ ?_ <| keep_frozen2 hb ?_ ?_ <;> (first | (simp [go_sem]; done) | (simp [go_sem, KFr]; done) | (simp [go_sem, KF2]; done) | (simp [go_sem, KFr, World.cell?_alloc_some]; done) | (simp [go_sem, KF2, World.cell?_alloc_some]; done) | (simp [go_sem, KFr, frozen?_alloc_cells]; done) | (simp [go_sem, KF2, frozen?_alloc_cells]; done))); have KFrz0 : w.heap.size < wq.heap.size := World.block_lt_of_cell? _ _ KFr.1; have KFrz1 : w.heap.size + 1 < wq.heap.size := World.block_lt_of_cell? _ _ KFr.2.2.2.2.1; have KFrz2 : w.heap.size + 1 + 1 < wq.heap.size := World.block_lt_of_cell? _ _ KFr.2.2.2.2.2.2.2.2.1; have HY : Hid (Rd wq gy W (bl W m)) := Bs.rd hBy (bl_len W _).symm; (try replace HX : Hid (Rd wq _ W (bl W n)) := Rd.keep HX.out hb); clear hBy; clear hb)))
    all_goals
      go_wp2_with fail
      go_meet
    all_goals first | exact ⟨_, _, rfl, rfl, HX.out, HY.out, KFr, hb'⟩ | exact ⟨_, _, rfl, rfl, HX.out, HY.out, KFr, hb'.drew⟩
  case rest =>
    obtain ⟨gx, gy, rfl, rfl, hX, hY, KFc, hbl⟩ := hcut
    have HX : Hid (Rd wc gx W (bl W n)) := hX
    have HY : Hid (Rd wc gy W (bl W m)) := hY
    have hbs := hbl.size
    clear hX hY KF2 hb1' hb2' hs1 hs2 KF1z0 KF1z1 KF1z2 KF2z0 KF2z1 KF2z2
    go_wp2_with fail
    refine (rwords_none (by omega)).mono ?_
    rintro e w3 ⟨rfl, hb3⟩
    have hb3' := below_step (w := w) (by go_grown) hb3
    have hs3 := hb3'.size
    have KF3 : W3 w3 w.heap.size W n <| F3 w3 w.heap.size <| W3 w3 (w.heap.size + 1) W m <| F3 w3 (w.heap.size + 1) <| S3 w3 (w.heap.size + 1 + 1) <| F3 w3 (w.heap.size + 1 + 1) <| True := (by refine k3 hb3 ?_ ?_ ?_ <| f3 hb3 ?_ ?_ <| k3 hb3 ?_ ?_ ?_ <| f3 hb3 ?_ ?_ <| s3 hb3 ?_ ?_ ?_ <| f3 hb3 ?_ ?_ <| trivial <;> (first | (simp [go_sem]; done) | (simp [go_sem, KFc]; done) | (simp [go_sem, KFc, World.cell?_alloc_some, frozen?_alloc_cells]; done))); have KF3z0 := zT KF3; have KF3z1 := zT KF3.2.2.2.2; have KF3z2 := zT KF3.2.2.2.2.2.2.2.2
    clear hb3 KFc
    have HWD : Hid (∀ (g c' : Nat) (wx : World), Rd wx g 1 (bl 1 (b01 c)) → Rt 49 #[.slice (some ⟨g, 0, none⟩) 1 c'] wx (.agg #[.int .i64 1, .int .u64 (LO (b01 c)), .int .u64 (HI (b01 c))])) := fun g c' wx h => word_rd h (by decide) (b01_lt c)
    go_wp2_with fail
    refine (HWD.out _ _ _ (Rd.lit c)).mono ?_
    rintro e w4 ⟨rfl, hb4⟩
    have hb4' := below_step (w := w) (by go_grown) hb4
    have hs4 := hb4'.size
    have KF4 : W3 w4 w.heap.size W n <| F3 w4 w.heap.size <| W3 w4 (w.heap.size + 1) W m <| F3 w4 (w.heap.size + 1) <| S3 w4 (w.heap.size + 1 + 1) <| F3 w4 (w.heap.size + 1 + 1) <| True := (by refine k3 hb4 ?_ ?_ ?_ <| f3 hb4 ?_ ?_ <| k3 hb4 ?_ ?_ ?_ <| f3 hb4 ?_ ?_ <| s3 hb4 ?_ ?_ ?_ <| f3 hb4 ?_ ?_ <| trivial <;> (first | (simp [go_sem]; done) | (simp [go_sem, KF3]; done) | (simp [go_sem, KF3, World.cell?_alloc_some, frozen?_alloc_cells]; done))); have KF4z0 := zT KF4; have KF4z1 := zT KF4.2.2.2.2; have KF4z2 := zT KF4.2.2.2.2.2.2.2.2
    clear hb4 KF3
    go_wp2_with fail
    refine bodyPost_ret (v := .tuple #[.agg #[.int .i64 1, .int .u64 (LO (b01 c)), .int .u64 (HI (b01 c))], .int .i64 0]) (by simp [results, Tryz.results59, go_sem, *]) rfl ?_
    exact ⟨rfl, by go_grown⟩
end Go.Proofs.YtnflphhckgeneaaGreat
