/- Contracts: digits read one behind the other, as the program does it. -/
import Derived.Test.YtjcmnhipiejnpaaT4
namespace Go.Proofs.Ytjcmnhipiejnpaa
open Go.RowKit
set_option linter.unusedSimpArgs false
set_option linter.unusedVariables false

/-- The number of digits, the highest first. -/
def val (b : Nat) : List UInt8 → Nat → Nat
  | [], acc => acc
  | c :: l, acc => val b l (acc * 2 ^ b + dig c.toNat)
def okd (b : Nat) (l : List UInt8) : Bool := l.all fun c => decide (dig c.toNat < 2 ^ b)

theorem val_append (b : Nat) : ∀ (l : List UInt8) (c : UInt8) (acc : Nat), val b (l ++ [c]) acc = val b l acc * 2 ^ b + dig c.toNat
  | [], _, _ => rfl
  | d :: l, c, acc => by rw [List.cons_append, val, val_append b l c]; rfl
theorem okd_append (b : Nat) (l : List UInt8) (c : UInt8) : okd b (l ++ [c]) = (okd b l && decide (dig c.toNat < 2 ^ b)) := by simp [okd]
theorem val_lt (b : Nat) : ∀ (l : List UInt8) (acc N : Nat), okd b l = true → acc < 2 ^ N → val b l acc < 2 ^ (N + l.length * b)
  | [], acc, N, _, h => by simpa [val] using h
  | c :: l, acc, N, ho, h => by
    have ho' : decide (dig c.toNat < 2 ^ b) = true ∧ okd b l = true := by simpa [okd] using ho
    have hd : dig c.toNat < 2 ^ b := by simpa using ho'.1
    have hacc : acc * 2 ^ b + dig c.toNat < 2 ^ (N + b) := by
      rw [Nat.pow_add]
      have : (acc + 1) * 2 ^ b ≤ 2 ^ N * 2 ^ b := Nat.mul_le_mul_right _ h
      rw [Nat.add_mul] at this; omega
    have := val_lt b l _ (N + b) ho'.2 hacc
    rw [val]
    rw [List.length_cons, Nat.add_mul, Nat.one_mul, show N + (l.length * b + b) = N + b + l.length * b by omega]
    exact this
theorem or_digit {p d b : Nat} (hb : b ≤ 64) (hd : d < 2 ^ b) (hp : p * 2 ^ b < 2 ^ 128) : bits .or .u64 (LO (p * 2 ^ b)) (d : Int) = LO (p * 2 ^ b + d) ∧ HI (p * 2 ^ b) = HI (p * 2 ^ b + d) := by
  have e : p * 2 ^ b + d = p * 2 ^ b ||| d := (cat_or hd).symm
  have hd64 : d < 2 ^ 64 := Nat.lt_of_lt_of_le hd (Nat.pow_le_pow_right (by decide) hb)
  have hd128 : d < 2 ^ 128 := Nat.lt_trans hd64 (by decide)
  have hl : LO d = (d : Int) := by unfold LO; rw [Nat.mod_eq_of_lt hd64]
  rw [e]
  constructor
  · rw [← hl]; exact lo_or _ _
  · unfold HI; rw [Nat.or_div_two_pow, Nat.div_eq_of_lt hd64, Nat.or_zero]
theorem lowest_nat {b lw : Nat} (hb : b ≤ 64) (h : lw + 1 = 2 ^ b) (wx : World) :
    Calls Try.prog 65 #[.int .i64 (b : Int)] wx fun e w' => e = .returned (.int .u64 (lw : Int)) ∧ w' = wx := by
  have h' := lowest_any (b : Int) (by omega) (by omega) wx
  have e : ((2 : Int) ^ (b : Int).toNat - 1) = (lw : Int) := by
    rw [Int.toNat_natCast]
    have : ((lw + 1 : Nat) : Int) = ((2 ^ b : Nat) : Int) := by rw [h]
    rw [Int.natCast_pow] at this
    simp only [Int.natCast_add, Int.natCast_one] at this
    have e2 : ((2 : Nat) : Int) = 2 := rfl
    rw [e2] at this
    omega
  rw [e] at h'; exact h'
/-- The first k digits' number. -/
def pv (b : Nat) (t : ByteArray) (k : Nat) : Nat := val b (t.data.toList.take k) 0
def po (b : Nat) (t : ByteArray) (k : Nat) : Bool := okd b (t.data.toList.take k)
theorem byte_at {t : ByteArray} {k : Nat} (h : k < t.size) : t.data.toList[k]? = some (t[k]'h) := by
  have h' : k < t.data.size := h
  rw [Array.getElem?_toList, Array.getElem?_eq_getElem h']; rfl
theorem pv_succ {b k : Nat} {t : ByteArray} (h : k < t.size) : pv b t (k + 1) = pv b t k * 2 ^ b + dig (t[k]'h).toNat := by
  unfold pv; rw [List.take_add_one, byte_at h]; exact val_append b _ _ 0
theorem po_succ {b k : Nat} {t : ByteArray} (h : k < t.size) : po b t (k + 1) = (po b t k && decide (dig (t[k]'h).toNat < 2 ^ b)) := by
  unfold po; rw [List.take_add_one, byte_at h]; exact okd_append b _ _
theorem pv_lt {b k : Nat} {t : ByteArray} (h : po b t k = true) (hk : k ≤ t.size) : pv b t k < 2 ^ (k * b) := by
  have := val_lt b _ 0 0 h (by decide)
  have hl : (t.data.toList.take k).length = k := by rw [List.length_take]; exact Nat.min_eq_left hk
  rw [hl, Nat.zero_add] at this; exact this
theorem take_all (t : ByteArray) : t.data.toList.take t.size = t.data.toList := List.take_of_length_le (Nat.le_refl t.data.size)
theorem po_false {b : Nat} {t : ByteArray} {k : Nat} (h : po b t k = false) : okd b t.data.toList = false := by
  unfold po okd at h
  unfold okd
  rw [← List.take_append_drop k t.data.toList, List.all_append, h]; rfl

set_option maxHeartbeats 3200000 in
set_option maxRecDepth 20000 in
theorem digits_any {t : ByteArray} {b m : Nat} (hb : b = 1 ∨ b = 4) (hm : t.size = m) (h1 : 1 ≤ m) (h2 : m * b ≤ 128) (w : World) :
    Calls Try.prog 58 #[.string t, .int .i64 (b : Int)] w fun e w' => e = .returned (if okd b t.data.toList then (.tuple #[.agg #[.int .i64 ((m * b : Nat) : Int), .int .u64 (LO (val b t.data.toList 0)), .int .u64 (HI (val b t.data.toList 0))], .int .i64 0]) else (.tuple #[.agg #[.int .i64 0, .int .u64 0, .int .u64 0], .int .i64 13])) ∧ Below w.heap.size w w' := by
  obtain ⟨W, hW⟩ : ∃ W, W = m * b := ⟨_, rfl⟩
  have hW1 : 1 ≤ W := by rw [hW]; exact Nat.mul_pos h1 (by omega)
  have hW2 : W ≤ 128 := by rw [hW]; exact h2
  have hmul : (m : Int) * (b : Int) = (W : Int) := by rw [hW]; simp
  rw [← hW]
  obtain ⟨R, hR⟩ : ∃ R : Value, R = (if okd b t.data.toList then (.tuple #[.agg #[.int .i64 (W : Int), .int .u64 (LO (val b t.data.toList 0)), .int .u64 (HI (val b t.data.toList 0))], .int .i64 0]) else (.tuple #[.agg #[.int .i64 0, .int .u64 0, .int .u64 0], .int .i64 13])) := ⟨_, rfl⟩
  rw [← hR]
  have HRR : Hid _ := hR
  clear hR
  have hm128 : m ≤ 128 := Nat.le_trans (Nat.le_mul_of_pos_right m (by omega)) h2
  have HW : Hid (W = m * b) := hW
  have HB : Hid (b = 1 ∨ b = 4) := hb
  clear hW h2 hb
  go_enter Try.func58, Try.ntmps58
  go_wp2_with fail
  refine (cut_any (W := W) (m := 0) (r := 0) hW1 hW2 (by decide) (by simp) rfl lo0 hi0 _).mono ?_
  rintro e w1 ⟨rfl, hb1⟩
  have hb1' := below_step (w := w) (by go_grown) hb1
  have hs1 := hb1'.size
  have KF1 : w1.cell? ⟨w.heap.size, 0, none⟩ = some (cv w1 ⟨w.heap.size, 0, none⟩) ∧ w1.cell? ⟨w.heap.size, 1, none⟩ = some (cv w1 ⟨w.heap.size, 1, none⟩) ∧ w1.cell? ⟨w.heap.size, 2, none⟩ = some (cv w1 ⟨w.heap.size, 2, none⟩) ∧ (∀ o, w1.frozen? ⟨w.heap.size, o, none⟩ = false) := ⟨keep_some hb1 (by first | (simp [go_sem]; done)), keep_some hb1 (by first | (simp [go_sem]; done)), keep_some hb1 (by first | (simp [go_sem]; done)), keep_frozen2 hb1 (by first | (simp [go_sem]; done)) (by first | (simp [go_sem]; done))⟩; have KF1z0 : w.heap.size < w1.heap.size := World.block_lt_of_cell? _ _ KF1.1
  clear hb1
  go_wp2_with fail
  have hpv0 : pv b t 0 = 0 := rfl
  go_loopw [25] (fun i wr => ∃ k : Nat, k ≤ m ∧ i = .int .i64 (k : Int) ∧ po b t k = true ∧ (wr.cell? ⟨w.heap.size, 0, none⟩ = some (cv wr ⟨w.heap.size, 0, none⟩) ∧ wr.cell? ⟨w.heap.size, 1, none⟩ = some (cv wr ⟨w.heap.size, 1, none⟩) ∧ wr.cell? ⟨w.heap.size, 2, none⟩ = some (cv wr ⟨w.heap.size, 2, none⟩) ∧ (∀ o, wr.frozen? ⟨w.heap.size, o, none⟩ = false) ∧ wr.cell? ⟨w1.heap.size, 0, none⟩ = some (.int .i64 W) ∧ wr.cell? ⟨w1.heap.size, 1, none⟩ = some (.int .u64 (LO (pv b t k))) ∧ wr.cell? ⟨w1.heap.size, 2, none⟩ = some (.int .u64 (HI (pv b t k))) ∧ (∀ o, wr.frozen? ⟨w1.heap.size, o, none⟩ = false)) ∧ Below w.heap.size w wr) (fun i _ => m - (intOf i).toNat)
  case atStart =>
    refine ⟨0, Nat.zero_le _, rfl, rfl, ⟨?_, ?_, ?_, ?_, ?_, ?_, ?_, ?_⟩, ?_⟩
    all_goals first | (simp [go_sem, KF1]; done) | (simp [go_sem, hpv0]; done) | (refine cv_some ?_; simp [go_sem, KF1]; done) | (refine cv_some ?_; simp [go_sem, KF1, KF1z0, World.cell?_alloc_some]; done) | (intro o; simp [go_sem, KF1]; done) | (intro o; simp [go_sem, KF1, frozen?_alloc_cells]; done) | (intro o; rw [World.frozen?_alloc_old _ _ _ (by simp [KF1])]; simp [KF1]; done) | go_grown
  case round =>
    clear KF1
    obtain ⟨k, hk, rfl, hpo, KF0, hbl⟩ := hrel
    have hbs := hbl.size
    have HP : Hid (po b t k = true) := hpo
    have hne : ¬ w1.heap.size = w.heap.size := by omega
    clear hpo
    by_cases hlt : k < m
    · have hks : k < t.size := by omega
      obtain ⟨c, hc⟩ : ∃ c, c = dig (t[k]'hks).toNat := ⟨_, rfl⟩
      have HDG : Hid (∀ wx, Calls Try.prog 78 #[.int .u8 (((t[k]'hks).toNat : Nat) : Int)] wx fun e w' => e = .returned (.int .u64 (c : Int)) ∧ w' = wx) := fun wx => by rw [hc]; exact digit_any _ (UInt8.toNat_lt _) wx
      obtain ⟨lw, hlw⟩ : ∃ lw : Nat, lw + 1 = 2 ^ b := ⟨2 ^ b - 1, by have := Nat.two_pow_pos b; omega⟩
      have HLW : Hid (∀ wx, Calls Try.prog 65 #[.int .i64 (b : Int)] wx fun e w' => e = .returned (.int .u64 (lw : Int)) ∧ w' = wx) := fun wx => lowest_nat (by have := HB.out; omega) hlw wx
      have HPS := po_succ (b := b) hks
      have HVS := pv_succ (b := b) hks
      rw [← hc] at HPS HVS
      have HPS' : Hid _ := HPS
      have HVS' : Hid _ := HVS
      have HLE : Hid (lw + 1 = 2 ^ b) := hlw
      clear hc HPS HVS hlw
      by_cases hd : c ≤ lw
      · have hdI : ¬ ((lw : Int) < (c : Int)) := by omega
        have hkb : (k + 1) * b ≤ W := by rw [HW.out]; exact Nat.mul_le_mul_right _ hlt
        have hkb0 : k * b + b ≤ W := by rw [Nat.add_mul, Nat.one_mul] at hkb; exact hkb
        have hpl := pv_lt (b := b) HP.out (by omega)
        have hp2 : pv b t k * 2 ^ b < 2 ^ W := by
          have h3 : pv b t k * 2 ^ b < 2 ^ (k * b + b) := by rw [Nat.pow_add]; exact Nat.mul_lt_mul_of_pos_right hpl (Nat.two_pow_pos b)
          exact Nat.lt_of_lt_of_le h3 (Nat.pow_le_pow_right (by decide) hkb0)
        have hp1 : pv b t k < 2 ^ W := Nat.lt_of_le_of_lt (Nat.le_mul_of_pos_right _ (Nat.two_pow_pos b)) hp2
        have hod := or_digit (p := pv b t k) (d := c) (b := b) (by have := HB.out; omega) (by rw [← HLE.out]; omega) (Nat.lt_of_lt_of_le hp2 (pow_le_128 hW2))
        rw [← HVS'.out] at hod
        have HPN : Hid (po b t (k + 1) = true) := by unfold Hid; rw [HPS'.out, HP.out, show decide (c < 2 ^ b) = true by rw [← HLE.out]; simp; omega]; rfl
        have HMU : Hid (∀ wx, Calls Try.prog 56 #[.agg #[.int .i64 W, .int .u64 (LO (pv b t k)), .int .u64 (HI (pv b t k))], .int .i64 (b : Int)] wx fun e w' => e = .returned (.agg #[.int .i64 W, .int .u64 (LO (pv b t k * 2 ^ b)), .int .u64 (HI (pv b t k * 2 ^ b))]) ∧ Below wx.heap.size wx w') := fun wx => by
          have h := moveUp_any (W := W) (n := pv b t k) (k := b) (Wd.mk' hW1 hW2 hp1) rfl (by have := HB.out; omega) wx
          rw [Nat.mod_eq_of_lt hp2] at h; exact h
        have HOD : Hid _ := hod
        clear hod hp1 hp2 hpl hkb hkb0 HVS' HPS' HLE HP
        go_wp2_with fail
        refine (HDG.out _).mono ?_
        rintro e wz ⟨rfl, rfl⟩
        go_wp2_with fail
        refine (HLW.out _).mono ?_
        rintro e wz ⟨rfl, rfl⟩
        go_wp2_with fail
        refine (HMU.out _).mono ?_
        rintro e w2 ⟨rfl, hb2⟩
        have hb2' := below_step (w := w) (by go_grown) hb2
        have hs2 := hb2'.size
        have KF2 : w2.cell? ⟨w.heap.size, 0, none⟩ = some (cv w2 ⟨w.heap.size, 0, none⟩) ∧ w2.cell? ⟨w.heap.size, 1, none⟩ = some (cv w2 ⟨w.heap.size, 1, none⟩) ∧ w2.cell? ⟨w.heap.size, 2, none⟩ = some (cv w2 ⟨w.heap.size, 2, none⟩) ∧ (∀ o, w2.frozen? ⟨w.heap.size, o, none⟩ = false) ∧ w2.cell? ⟨w1.heap.size, 0, none⟩ = some (.int .i64 W) ∧ w2.cell? ⟨w1.heap.size, 1, none⟩ = some (.int .u64 (LO (pv b t k))) ∧ w2.cell? ⟨w1.heap.size, 2, none⟩ = some (.int .u64 (HI (pv b t k))) ∧ (∀ o, w2.frozen? ⟨w1.heap.size, o, none⟩ = false) := ⟨keep_some hb2 (by first | (simp [go_sem]; done) | (simp [go_sem, KF0]; done) | (simp [go_sem, KF0, World.cell?_alloc_some]; done) | (simp [go_sem, KF0, frozen?_alloc_cells]; done)), keep_some hb2 (by first | (simp [go_sem]; done) | (simp [go_sem, KF0]; done) | (simp [go_sem, KF0, World.cell?_alloc_some]; done) | (simp [go_sem, KF0, frozen?_alloc_cells]; done)), keep_some hb2 (by first | (simp [go_sem]; done) | (simp [go_sem, KF0]; done) | (simp [go_sem, KF0, World.cell?_alloc_some]; done) | (simp [go_sem, KF0, frozen?_alloc_cells]; done)), keep_frozen2 hb2 (by first | (simp [go_sem]; done) | (simp [go_sem, KF0]; done) | (simp [go_sem, KF0, World.cell?_alloc_some]; done) | (simp [go_sem, KF0, frozen?_alloc_cells]; done)) (by first | (simp [go_sem]; done) | (simp [go_sem, KF0]; done) | (simp [go_sem, KF0, World.cell?_alloc_some]; done) | (simp [go_sem, KF0, frozen?_alloc_cells]; done)), keep_cell hb2 (by first | (simp [go_sem]; done) | (simp [go_sem, KF0]; done) | (simp [go_sem, KF0, World.cell?_alloc_some]; done) | (simp [go_sem, KF0, frozen?_alloc_cells]; done)), keep_cell hb2 (by first | (simp [go_sem]; done) | (simp [go_sem, KF0]; done) | (simp [go_sem, KF0, World.cell?_alloc_some]; done) | (simp [go_sem, KF0, frozen?_alloc_cells]; done)), keep_cell hb2 (by first | (simp [go_sem]; done) | (simp [go_sem, KF0]; done) | (simp [go_sem, KF0, World.cell?_alloc_some]; done) | (simp [go_sem, KF0, frozen?_alloc_cells]; done)), keep_frozen2 hb2 (by first | (simp [go_sem]; done) | (simp [go_sem, KF0]; done) | (simp [go_sem, KF0, World.cell?_alloc_some]; done) | (simp [go_sem, KF0, frozen?_alloc_cells]; done)) (by first | (simp [go_sem]; done) | (simp [go_sem, KF0]; done) | (simp [go_sem, KF0, World.cell?_alloc_some]; done) | (simp [go_sem, KF0, frozen?_alloc_cells]; done))⟩; have KF2z0 : w.heap.size < w2.heap.size := World.block_lt_of_cell? _ _ KF2.1; have KF2z1 : w1.heap.size < w2.heap.size := World.block_lt_of_cell? _ _ KF2.2.2.2.2.1
        clear hb2 KF0
        clear HDG HLW HMU
        go_wp2_with fail
        rw [HOD.out.1]
        refine ⟨⟨k + 1, by omega, by go_num, HPN.out, ⟨?_, ?_, ?_, ?_, ?_, ?_, ?_, ?_⟩, by go_grown⟩, by simp [intOf]; omega⟩
        all_goals first | (simp (maxDischargeDepth := 6) [go_sem, cell_put, KF2, hne]; done) | (refine cv_some ?_; simp (maxDischargeDepth := 6) [go_sem, cell_put, KF2, hne]; done) | (intro o; simp (maxDischargeDepth := 6) [go_sem, cell_put, KF2, hne]; done) | (rw [← HOD.out.2]; simp (maxDischargeDepth := 6) [go_sem, cell_put, KF2, hne]; done)
      · have hdI : (lw : Int) < (c : Int) := by omega
        have HOK : Hid (okd b t.data.toList = false) := po_false (k := k + 1) (by rw [HPS'.out, show decide (c < 2 ^ b) = false by rw [← HLE.out]; simp; omega]; simp)
        go_wp2_with fail
        refine (HDG.out _).mono ?_
        rintro e wz ⟨rfl, rfl⟩
        go_wp2_with fail
        refine (HLW.out _).mono ?_
        rintro e wz ⟨rfl, rfl⟩
        go_wp2_with fail
        refine bodyPost_ret (v := .tuple #[.agg #[.int .i64 0, .int .u64 0, .int .u64 0], .int .i64 13]) (by simp [results, Try.results58, go_sem, KF0]) rfl ?_
        exact ⟨by rw [HRR.out, HOK.out]; rfl, by go_grown⟩
    · obtain rfl : k = m := by omega
      have HOK : Hid (okd b t.data.toList = true) := by have h := HP.out; unfold po at h; rw [← hm, take_all] at h; exact h
      have HVV : Hid (val b t.data.toList 0 = pv b t k) := by unfold Hid pv; rw [← hm, take_all]
      go_wp2_with fail
      refine bodyPost_ret (v := .tuple #[.agg #[.int .i64 W, .int .u64 (LO (pv b t k)), .int .u64 (HI (pv b t k))], .int .i64 0]) (by simp [results, Try.results58, go_sem, KF0, hne]) rfl ?_
      exact ⟨by rw [HRR.out, HOK.out, HVV.out]; rfl, by go_grown⟩
end Go.Proofs.Ytjcmnhipiejnpaa
