/- Plain facts on long division: no Go in sight. -/
import Derived.Test.YtohfjpahdoodgaaGreatDoorMg39
import Derived.Deep.RegionWith
import Derived.Test.YtohfjpahdoodgaaGreatDoorU8
namespace Go.Proofs.YtohfjpahdoodgaaGreatDoor.Ag

theorem top_step {n W k : Nat} (hk : k < W) : n / 2 ^ (W - (k + 1)) = 2 * (n / 2 ^ (W - k)) + (if n.testBit (W - 1 - k) then 1 else 0) := by
  have e : 2 ^ (W - k) = 2 ^ (W - (k + 1)) * 2 := by rw [← Nat.pow_succ]; congr 1; omega
  rw [e, ← Nat.div_div_eq_div_mul, show W - 1 - k = W - (k + 1) from by omega, Nat.testBit_eq_decide_div_mod_eq]
  generalize n / 2 ^ (W - (k + 1)) = x
  by_cases h : x % 2 = 1
  · simp [h]; omega
  · simp [h]; omega
theorem div_step_lt {m N c : Nat} (h : 2 * (N % m) + c < m) : (2 * N + c) / m = 2 * (N / m) ∧ (2 * N + c) % m = 2 * (N % m) + c := by
  have e : 2 * N + c = (2 * (N % m) + c) + m * (2 * (N / m)) := by
    have := Nat.mod_add_div N m
    have e2 : m * (2 * (N / m)) = 2 * (m * (N / m)) := Nat.mul_left_comm ..
    omega
  rw [e]
  constructor
  · rw [Nat.add_mul_div_left _ _ (by omega), Nat.div_eq_of_lt h]; omega
  · rw [Nat.add_mul_mod_self_left, Nat.mod_eq_of_lt h]
theorem div_step_ge {m N c : Nat} (hm : 0 < m) (hc : c ≤ 1) (h : m ≤ 2 * (N % m) + c) : (2 * N + c) / m = 2 * (N / m) + 1 ∧ (2 * N + c) % m = 2 * (N % m) + c - m := by
  have hr : N % m < m := Nat.mod_lt _ hm
  have e : 2 * N + c = (2 * (N % m) + c - m) + m * (2 * (N / m) + 1) := by
    have := Nat.mod_add_div N m
    have e2 : m * (2 * (N / m) + 1) = 2 * (m * (N / m)) + m := by rw [Nat.mul_add, Nat.mul_left_comm]; omega
    omega
  have h2 : 2 * (N % m) + c - m < m := by omega
  generalize hx : 2 * (N % m) + c - m = x at *
  generalize hy : 2 * (N / m) + 1 = y at *
  rw [e]
  constructor
  · rw [Nat.add_mul_div_left _ _ hm, Nat.div_eq_of_lt h2]; omega
  · rw [Nat.add_mul_mod_self_left, Nat.mod_eq_of_lt h2]
theorem testBit_top {W r : Nat} (h1 : 1 ≤ W) (h : r < 2 ^ W) : r.testBit (W - 1) = decide (2 ^ (W - 1) ≤ r) := by
  have e : 2 ^ W = 2 * 2 ^ (W - 1) := by rw [← Nat.pow_succ']; congr 1; omega
  rw [Nat.testBit_eq_decide_div_mod_eq]
  have hp := Nat.two_pow_pos (W - 1)
  by_cases hl : 2 ^ (W - 1) ≤ r
  · have : r / 2 ^ (W - 1) = 1 := by
      apply Nat.div_eq_of_lt_le <;> omega
    simp [this, hl]
  · rw [Nat.div_eq_of_lt (by omega)]; simp [hl]
theorem pow_pred {W : Nat} (h1 : 1 ≤ W) : 2 ^ W = 2 * 2 ^ (W - 1) := by rw [← Nat.pow_succ']; congr 1; omega
theorem twice_lo {W r : Nat} (h1 : 1 ≤ W) (h : r < 2 ^ W) (ht : r.testBit (W - 1) = false) : r * 2 ^ 1 % 2 ^ W = 2 * r := by
  rw [testBit_top h1 h] at ht
  simp at ht
  have e := pow_pred h1
  rw [Nat.mod_eq_of_lt (by omega)]; omega
theorem twice_hi {W r : Nat} (h1 : 1 ≤ W) (h : r < 2 ^ W) (ht : r.testBit (W - 1) = true) : r * 2 ^ 1 % 2 ^ W + 2 ^ W = 2 * r := by
  rw [testBit_top h1 h] at ht
  simp at ht
  have e := pow_pred h1
  rw [Nat.mod_eq_sub_mod (by omega), Nat.mod_eq_of_lt (by omega)]; omega
theorem twice_even {W r : Nat} (h1 : 1 ≤ W) : r * 2 ^ 1 % 2 ^ W % 2 = 0 := by
  rw [Nat.mod_mod_of_dvd _ (by rw [pow_pred h1]; exact Nat.dvd_mul_right 2 _)]; omega
theorem or1_lo {x : Nat} (h : x % 2 = 0) : bits .or .u64 (LO x) 1 = LO (x + 1) := by
  rw [lo1, lo_or]
  congr 1
  have h2 := Nat.two_pow_add_eq_or_of_lt (i := 1) (b := 1) (by decide) (x / 2)
  have e : 2 ^ 1 * (x / 2) = x := by omega
  rw [e] at h2
  exact h2.symm
theorem or1_hi {x : Nat} (h : x % 2 = 0) : HI x = HI (x + 1) := by
  unfold HI; congr 1; omega
theorem quot_bound {n m W k : Nat} (hk : k < W) (hn : n < 2 ^ W) : n / 2 ^ (W - k) / m * 2 ^ 1 % 2 ^ W = 2 * (n / 2 ^ (W - k) / m) := by
  have h1 : n / 2 ^ (W - k) / m ≤ n / 2 ^ (W - k) := Nat.div_le_self _ _
  have h2 : n / 2 ^ (W - k) < 2 ^ k := by
    apply Nat.div_lt_of_lt_mul
    rw [← Nat.pow_add, show W - k + k = W from by omega]; exact hn
  have h3 : 2 ^ (k + 1) ≤ 2 ^ W := Nat.pow_le_pow_right (by decide) (by omega)
  rw [Nat.pow_succ] at h3
  rw [Nat.mod_eq_of_lt (by omega)]; omega

end Go.Proofs.YtohfjpahdoodgaaGreatDoor.Ag

/- The document's operators on the bits of numbers; its product and negation. -/
namespace Go.Proofs.YtohfjpahdoodgaaGreatDoor.Ag
open Go.RowKit
set_option linter.unusedSimpArgs false
set_option linter.unusedVariables false

theorem bl_nb {W : Nat} {l : List Bool} (h : l.length = W) : l = bl W (nb l) := by
  apply List.ext_getElem?; intro j
  by_cases hj : j < W
  · rw [show (bl W (nb l))[j]? = some ((nb l).testBit j) by simp [bl, hj], nb_bit]
    simp [h, hj]
  · simp [bl, hj, h]
theorem bl_of {W n : Nat} {l : List Bool} (h : l.length = W) (hn : nb l = n) : l = bl W n := by rw [← hn]; exact bl_nb h
theorem bl_mod (W n : Nat) : bl W (n % 2 ^ W) = bl W n := by
  have := bl_nb (bl_len W n); rw [nb_bl] at this; exact this.symm
theorem bl_congr {W n m : Nat} (h : n % 2 ^ W = m % 2 ^ W) : bl W n = bl W m := by rw [← bl_mod, h, bl_mod]
theorem bl_ofmod {W n : Nat} {l : List Bool} (h : l.length = W) (hn : nb l = n % 2 ^ W) : l = bl W n := by rw [bl_of h hn, bl_mod]
theorem nb_blt {W n : Nat} (h : n < 2 ^ W) : nb (bl W n) = n := by rw [nb_bl, Nat.mod_eq_of_lt h]

theorem nb_up {W n x : Nat} : (List.range W).map (fun j => decide (n ≤ j) && (bl W x).getD (j - n) false) = bl W (x * 2 ^ n) := by
  apply List.ext_getElem?; intro j
  by_cases hj : j < W
  · simp only [bl, List.getElem?_map, List.getElem?_range hj, Option.map_some]
    rw [Nat.testBit_mul_two_pow]
    congr 1
    by_cases h : n ≤ j
    · have h2 : j - n < W := by omega
      simp [h, h2]
    · simp [h]
  · simp [bl, hj]
theorem nb_down {W n x : Nat} : (List.range W).map (fun j => if j + n < W then (bl W x).getD (j + n) false else false) = bl W (x % 2 ^ W / 2 ^ n) := by
  apply List.ext_getElem?; intro j
  by_cases hj : j < W
  · simp only [bl, List.getElem?_map, List.getElem?_range hj, Option.map_some]
    rw [Nat.testBit_div_two_pow, Nat.testBit_mod_two_pow]
    congr 1
    by_cases h : j + n < W
    · simp [h]
    · simp [h]
  · simp [bl, hj]
theorem mul_step {x y k : Nat} : x * (y % 2 ^ (k + 1)) = x * (y % 2 ^ k) + (y.testBit k).toNat * (x * 2 ^ k) := by
  have : y % 2 ^ (k + 1) = y % 2 ^ k + (y.testBit k).toNat * 2 ^ k := by
    rw [Nat.mod_pow_succ, Nat.testBit_eq_decide_div_mod_eq, Nat.mul_comm]
    rcases Nat.mod_two_eq_zero_or_one (y / 2 ^ k) with h | h <;> simp [h]
  rw [this, Nat.mul_add, Nat.mul_left_comm]
theorem div_step {x y r q b : Nat} (hy : 0 < y) (hr : x % y = r) (hq : x / y = q) (hb : b ≤ 1) :
    (y ≤ 2 * r + b → (2 * x + b) % y = 2 * r + b - y ∧ (2 * x + b) / y = 2 * q + 1) ∧ (2 * r + b < y → (2 * x + b) % y = 2 * r + b ∧ (2 * x + b) / y = 2 * q) := by
  have h := Nat.div_add_mod x y
  rw [hr, hq] at h
  have hlt : r < y := by rw [← hr]; exact Nat.mod_lt _ hy
  have e : 2 * x + b = y * (2 * q) + (2 * r + b) := by rw [← h, Nat.mul_add, Nat.mul_left_comm]; omega
  constructor
  · intro h1
    have e2 : 2 * x + b = y * (2 * q + 1) + (2 * r + b - y) := by rw [e, Nat.mul_add]; omega
    rw [e2, Nat.mul_add_mod, Nat.mod_eq_of_lt (by omega), Nat.mul_add_div hy, Nat.div_eq_of_lt (by omega)]
    exact ⟨rfl, rfl⟩
  · intro h1
    rw [e, Nat.mul_add_mod, Nat.mod_eq_of_lt h1, Nat.mul_add_div hy, Nat.div_eq_of_lt h1]
    exact ⟨rfl, rfl⟩

/-- What a call leaves: a new list of the bits of n. -/
abbrev Nw (W n : Nat) (w : World) (e : Ending) (w' : World) : Prop := ∃ r, e = .returned (.slice (some ⟨r, 0, none⟩) W W) ∧ Bs w' w.heap.size (.slice (some ⟨r, 0, none⟩) W W) (bl W n) ∧ Below w.heap.size w w'

theorem rnot {w : World} {g c W x : Nat} (h : Rd w g W (bl W x)) (hW : W ≤ 128) (hx : x < 2 ^ W) :
    Calls Tryz.prog 97 #[.slice (some ⟨g, 0, none⟩) W c] w (Nw W (2 ^ W - 1 - x) w) := by
  refine (refnot_any (c := c) h hW).mono ?_
  rintro e w' ⟨r, rfl, hB, hb⟩
  have e : (List.range W).map (fun j => !(bl W x).getD j false) = bl W (2 ^ W - 1 - x) := bl_of (by simp) (by rw [nb_not (bl_len W x), nb_blt hx])
  rw [e] at hB; exact ⟨r, rfl, hB, hb⟩
theorem radd {w : World} {g g' c c' W x y : Nat} {cy : Bool} (ha : Rd w g W (bl W x)) (hb : Rd w g' W (bl W y)) (hW : W ≤ 128) :
    Calls Tryz.prog 74 #[.slice (some ⟨g, 0, none⟩) W c, .slice (some ⟨g', 0, none⟩) W c', .bool cy] w (Nw W (x + y + cy.toNat) w) := by
  refine (refadd_any (c := c) (c' := c') ha hb hW).mono ?_
  rintro e w' ⟨r, rfl, hB, hb⟩
  have e : (List.range W).map (sumb (bl W x) (bl W y) cy) = bl W (x + y + cy.toNat) := bl_ofmod (by simp) (by rw [nb_add (bl_len W x) (bl_len W y), nb_bl, nb_bl]; simp [Nat.add_mod])
  rw [e] at hB; exact ⟨r, rfl, hB, hb⟩
theorem rsub {w : World} {g g' c c' W x y : Nat} (ha : Rd w g W (bl W x)) (hb : Rd w g' W (bl W y)) (hW : W ≤ 128) (hy : y < 2 ^ W) :
    Calls Tryz.prog 75 #[.slice (some ⟨g, 0, none⟩) W c, .slice (some ⟨g', 0, none⟩) W c'] w (Nw W (x + (2 ^ W - y)) w) := by
  refine (refsub_any (c := c) (c' := c') ha hb hW).mono ?_
  rintro e w' ⟨r, rfl, hB, hb⟩
  have e : (List.range W).map (sumb (bl W x) ((List.range W).map fun j => !(bl W y).getD j false) true) = bl W (x + (2 ^ W - y)) := bl_ofmod (by simp) (by
    rw [nb_add (bl_len W x) (by simp), nb_not (bl_len W y), nb_blt hy, nb_bl, Nat.add_assoc, Nat.mod_add_mod]
    congr 2; simp only [Bool.toNat_true]; omega)
  rw [e] at hB; exact ⟨r, rfl, hB, hb⟩
theorem rup {w : World} {g c W n x : Nat} (h : Rd w g W (bl W x)) (hW : W ≤ 128) (hn : n ≤ W) :
    Calls Tryz.prog 82 #[.slice (some ⟨g, 0, none⟩) W c, .int .i64 (n : Int)] w (Nw W (x * 2 ^ n) w) := by
  refine (refup_any (c := c) h hW hn).mono ?_
  rintro e w' ⟨r, rfl, hB, hb⟩
  refine ⟨r, rfl, ?_, hb⟩
  rw [← nb_up]; exact hB
theorem rdown {w : World} {g c W n x : Nat} (h : Rd w g W (bl W x)) (hW : W ≤ 128) (hn : n ≤ W) :
    Calls Tryz.prog 84 #[.slice (some ⟨g, 0, none⟩) W c, .int .i64 (n : Int), .bool false] w (Nw W (x % 2 ^ W / 2 ^ n) w) := by
  refine (refdown_any (c := c) h hW hn).mono ?_
  rintro e w' ⟨r, rfl, hB, hb⟩
  refine ⟨r, rfl, ?_, hb⟩
  rw [← nb_down]; exact hB
theorem rzero {w : World} {g c W x : Nat} (h : Rd w g W (bl W x)) (hW : W ≤ 128) (hx : x < 2 ^ W) :
    Calls Tryz.prog 98 #[.slice (some ⟨g, 0, none⟩) W c] w fun e w' => e = .returned (.bool (decide (x = 0))) ∧ Below w.heap.size w w' := by
  refine (refzero_any (c := c) h hW).mono ?_
  rintro e w' ⟨rfl, rfl⟩
  exact ⟨by rw [nb_blt hx], Below.refl _ _⟩
theorem rbelow {w : World} {g g' c c' W x y : Nat} (ha : Rd w g W (bl W x)) (hb : Rd w g' W (bl W y)) (hW : W ≤ 128) (hx : x < 2 ^ W) (hy : y < 2 ^ W) :
    Calls Tryz.prog 53 #[.slice (some ⟨g, 0, none⟩) W c, .slice (some ⟨g', 0, none⟩) W c'] w fun e w' => e = .returned (.bool (decide (x < y))) ∧ Below w.heap.size w w' := by
  refine (refbelow_any (c := c) (c' := c') ha hb hW).mono ?_
  rintro e w' ⟨rfl, h⟩
  exact ⟨by rw [nb_blt hx, nb_blt hy], h⟩
theorem ramount {w : World} {g c W x : Nat} (h : Rd w g W (bl W x)) (hW : W ≤ 128) (hx : x < 2 ^ W) :
    Calls Tryz.prog 83 #[.slice (some ⟨g, 0, none⟩) W c] w fun e w' => e = .returned (.int .i64 ((min x W : Nat) : Int)) ∧ Below w.heap.size w w' := by
  refine (refamount_any (c := c) h hW).mono ?_
  rintro e w' ⟨rfl, rfl⟩
  exact ⟨by rw [nb_blt hx], Below.refl _ _⟩

set_option maxHeartbeats 1600000 in
theorem refmul_any {w : World} {g g' c c' W x y : Nat} (ha : Rd w g W (bl W x)) (hb : Rd w g' W (bl W y)) (hW : W ≤ 128) (hy : y < 2 ^ W) :
    Calls Tryz.prog 76 #[.slice (some ⟨g, 0, none⟩) W c, .slice (some ⟨g', 0, none⟩) W c'] w (Nw W (x * y) w) := by
  have hmk := make_bools W hW
  have HA : Hid (Rd w g W (bl W x)) := ha
  have HB : Hid (Rd w g' W (bl W y)) := hb
  have HY : Hid (y % 2 ^ W = y) := Nat.mod_eq_of_lt hy
  clear ha hb hy
  go_enter Tryz.func76, Tryz.ntmps76
  go_wp2_with fail
  go_loopw [6, 5] (fun i s wr => ∃ k r : Nat, k ≤ W ∧ i = .int .i64 k ∧ s = .slice (some ⟨r, 0, none⟩) W W ∧ Bs wr w.heap.size (.slice (some ⟨r, 0, none⟩) W W) (bl W (x * (y % 2 ^ k))) ∧ Below w.heap.size w wr) (fun i _ _ => W - (intOf i).toNat)
  case atStart =>
    refine ⟨0, w.heap.size, Nat.zero_le _, rfl, rfl, ?_, ?_⟩
    · have e : bl W (x * (y % 2 ^ 0)) = List.replicate W false := by
        apply List.ext_getElem?; intro j
        by_cases hj : j < W <;> simp [bl, hj, Nat.mod_one]
      rw [e]; exact Bs.made W (Nat.le_refl _) (by omega)
    · go_grown
  case round =>
    obtain ⟨k, r, hk, rfl, rfl, hB, hbl⟩ := hrel
    have HR : Hid (Bs wr w.heap.size (.slice (some ⟨r, 0, none⟩) W W) (bl W (x * (y % 2 ^ k)))) := hB
    clear hB
    by_cases hlt : k < W
    · obtain ⟨v, hv⟩ : ∃ v, v = y.testBit k := ⟨_, rfl⟩
      have hck : wr.cell? ⟨g', k, none⟩ = some (.bool v) := by
        rw [hv, hbl.cell (p := ⟨g', k, none⟩) HB.out.2.1, HB.out.2.2 k hlt, bl_getD]; simp [hlt]
      have hst := mul_step (x := x) (y := y) (k := k)
      rw [← hv] at hst
      have HS : Hid _ := hst
      clear hst hv
      cases v
      · go_wp2_with fail
        refine ⟨⟨k + 1, r, by omega, by go_num, rfl, ?_, hbl⟩, by simp [intOf]; omega⟩
        rw [HS.out]; simpa using HR.out
      · go_wp2_with fail
        refine (rup (n := k) (Rd.keepB HA.out HA.out.2.1 hbl) hW (by omega)).mono ?_
        rintro e w1 ⟨r1, rfl, hB1, hb1⟩
        have HU : Hid (Rd w1 r1 W (bl W (x * 2 ^ k))) := Bs.rd hB1 (bl_len W _).symm
        have HO : Hid (Rd w1 r W (bl W (x * (y % 2 ^ k)))) := Rd.keep (Bs.rd HR.out (bl_len W _).symm) hb1
        have hz := hbl.size
        have hb2 : Below w.heap.size w w1 := hbl.trans (hb1.mono hz)
        clear hB1 HR hbl hck hb1
        go_wp2_with fail
        refine (radd HO.out HU.out hW).mono ?_
        rintro e w2 ⟨r2, rfl, hB2, hb3⟩
        have HN : Hid (Bs w2 w.heap.size (.slice (some ⟨r2, 0, none⟩) W W) (bl W (x * (y % 2 ^ (k + 1))))) := by
          unfold Hid; rw [HS.out]
          have := Bs.mono hB2 hb2.size
          simpa using this
        have hb4 : Below w.heap.size w w2 := hb2.trans (hb3.mono hb2.size)
        clear hB2 HO HU hb3 hb2
        go_wp2_with fail
        exact ⟨⟨k + 1, r2, by omega, by go_num, rfl, HN.out, hb4⟩, by simp [intOf]; omega⟩
    · obtain rfl : k = W := by omega
      have HE : Hid (Bs wr w.heap.size (.slice (some ⟨r, 0, none⟩) k k) (bl k (x * y))) := by unfold Hid; rw [← HY.out]; exact HR.out
      clear HR
      go_wp2_with fail
      go_ret
      exact ⟨_, rfl, HE.out, hbl⟩

theorem bl_zero (W : Nat) : bl W 0 = List.replicate W false := by
  apply List.ext_getElem?; intro j
  by_cases hj : j < W <;> simp [bl, hj]
theorem Rd.made {w : World} (W : Nat) (hW : W ≤ 1000) : Rd (w.alloc (.cells (Array.replicate W (.bool false)) 4)) w.heap.size W (bl W 0) := by
  rw [bl_zero]; exact Bs.rd (Bs.made (base := w.heap.size) W (Nat.le_refl _) hW) (by simp)
theorem Rd.drew {w : World} {g W : Nat} {l : List Bool} (h : Rd w g W l) : Rd w.drew g W l := h
theorem Rd.alloc {w : World} {g W : Nat} {l : List Bool} (h : Rd w g W l) (o : Obj) : Rd (w.alloc o) g W l := Rd.keep h ((Below.refl _ w).alloc (Nat.le_refl _) o)

set_option maxHeartbeats 1600000 in
theorem refneg_any {w : World} {g c W x : Nat} (ha : Rd w g W (bl W x)) (hW : W ≤ 128) (hx : x < 2 ^ W) :
    Calls Tryz.prog 80 #[.slice (some ⟨g, 0, none⟩) W c] w (Nw W (neg W x) w) := by
  have hmk := make_bools W hW
  have HA : Hid (Rd w g W (bl W x)) := ha
  have HE : Hid (bl W (2 ^ W - 1 - x + 0 + true.toNat) = bl W (neg W x)) := by
    unfold Hid neg; rw [bl_mod]; congr 1; simp only [Bool.toNat_true]; omega
  clear ha
  go_enter Tryz.func80, Tryz.ntmps80
  go_wp2_with fail
  go_region_with ((first
    | (go_at_call 97; refine (rnot (x := x) ?_ hW hx).mono ?_; (first | exact HA.out | exact Rd.alloc HA.out _ | exact Rd.drew (Rd.alloc HA.out _)); rintro e wq ⟨r1, rfl, hB1, hb⟩; have hbw : Below w.heap.size w wq := below_step (w := w) (by go_grown) hb; have hs := hbw.size; have HN : Hid (Rd wq r1 W (bl W (2 ^ W - 1 - x))) := Bs.rd hB1 (bl_len W _).symm; (try have HZ : Hid (Rd wq w.heap.size W (bl W 0)) := Rd.keep (Rd.drew (Rd.made W (Nat.le_trans hW (by decide)))) hb); clear hB1 hb)
    | (go_at_call 74; refine (radd (x := 2 ^ W - 1 - x) (y := 0) ?_ ?_ hW).mono ?_; (first | exact HN.out | exact Rd.alloc HN.out _ | exact Rd.drew (Rd.alloc HN.out _) | exact Rd.alloc (Rd.drew HN.out) _); (first | exact HZ.out | exact Rd.made W (Nat.le_trans hW (by decide)) | exact Rd.drew (Rd.made W (Nat.le_trans hW (by decide)))); rintro e wr ⟨r2, rfl, hB2, hb⟩; have hbz : Below w.heap.size w wr := below_step (w := w) (by go_grown) hb; have hs2 := hbz.size; have HR : Hid (Bs wr w.heap.size (.slice (some ⟨r2, 0, none⟩) W W) (bl W (neg W x))) := (by unfold Hid; rw [← HE.out]; exact Bs.mono hB2 (by first | omega | (simp; omega))); clear hB2 hb)))
  all_goals
    go_wp2_with fail
    go_ret
    exact ⟨_, rfl, HR.out, by go_grown⟩
end Go.Proofs.YtohfjpahdoodgaaGreatDoor.Ag
