/- Contracts: the document's sign, size and turned lists of bits. -/
import Derived.Deep.AppendLies
import Derived.Test.YtohfjpahdoodgaaGreatDoorMg43
import Derived.Test.YtohfjpahdoodgaaGreatDoorMg39
import Derived.Shelf.Bits.Mul64
import Derived.Shelf.Spec.BitsCarry
namespace Go.Proofs.YtohfjpahdoodgaaGreatDoor.Ag
open Go.RowKit
set_option linter.unusedSimpArgs false
set_option linter.unusedVariables false

/-- What a call leaves: a list of the bits of n. -/
abbrev Rw (W n : Nat) (w : World) (e : Ending) (w' : World) : Prop := ∃ r c, e = .returned (.slice (some ⟨r, 0, none⟩) W c) ∧ Rd w' r W (bl W n) ∧ Below w.heap.size w w'
theorem Nw.rw {W n : Nat} {w : World} {e : Ending} {w' : World} (h : Nw W n w e w') : Rw W n w e w' := by
  obtain ⟨r, rfl, hB, hb⟩ := h
  exact ⟨r, W, rfl, Bs.rd hB (bl_len W n).symm, hb⟩
theorem Rd.bit {w : World} {g W x j : Nat} (h : Rd w g W (bl W x)) (hj : j < W) : w.cell? ⟨g, j, none⟩ = some (.bool (x.testBit j)) := by
  rw [h.2.2 j hj, bl_getD]; simp [hj]

theorem rminus {w : World} {g c W x : Nat} (h : Rd w g W (bl W x)) (h1 : 1 ≤ W) (hW : W ≤ 128) :
    Calls Tryz.prog 79 #[.slice (some ⟨g, 0, none⟩) W c] w fun e w' => e = .returned (.bool (x.testBit (W - 1))) ∧ Below w.heap.size w w' := by
  have hc : w.cell? ⟨g, W - 1, none⟩ = some (.bool (x.testBit (W - 1))) := Rd.bit h (by omega)
  have h0 : (0 : Int) ≤ (W : Int) - 1 := by omega
  have h1' : (W : Int) - 1 < W := by omega
  have h2 : ((W : Int) - 1).toNat = W - 1 := by omega
  clear h
  go_enter Tryz.func79, Tryz.ntmps79
  go_wp2
  go_ret
  exact ⟨rfl, Below.refl _ _⟩

set_option maxHeartbeats 800000 in
theorem rsize {w : World} {g c W x : Nat} (h : Rd w g W (bl W x)) (h1 : 1 ≤ W) (hW : W ≤ 128) (hx : x < 2 ^ W) :
    Calls Tryz.prog 78 #[.slice (some ⟨g, 0, none⟩) W c] w (Rw W (wsign W x x) w) := by
  have HA : Hid (Rd w g W (bl W x)) := h
  clear h
  cases hs : x.testBit (W - 1)
  · have HE : Hid (wsign W x x = x) := by unfold Hid wsign; rw [hs]; rfl
    have HM := rminus (c := c) HA.out h1 hW
    rw [hs] at HM
    have HMH : Hid _ := HM
    clear HM hs
    go_enter Tryz.func78, Tryz.ntmps78
    go_wp2_with fail
    refine Calls.mono HMH.out ?_
    rintro e w1 ⟨rfl, hb1⟩
    have HR : Hid (Rd w1 g W (bl W (wsign W x x))) := by unfold Hid; rw [HE.out]; exact Rd.keep HA.out hb1
    clear HMH HE HA
    go_wp2_with fail
    go_ret
    exact ⟨_, _, rfl, HR.out, hb1⟩
  · have HE : Hid (wsign W x x = neg W x) := by unfold Hid wsign; rw [hs]; rfl
    have HM := rminus (c := c) HA.out h1 hW
    rw [hs] at HM
    have HMH : Hid _ := HM
    clear HM hs
    go_enter Tryz.func78, Tryz.ntmps78
    go_wp2_with fail
    refine Calls.mono HMH.out ?_
    rintro e w1 ⟨rfl, hb1⟩
    have HR : Hid (Rd w1 g W (bl W x)) := Rd.keep HA.out hb1
    clear HMH HA
    go_wp2_with fail
    refine (refneg_any HR.out hW hx).mono ?_
    rintro e w2 ⟨r2, rfl, hB2, hb2⟩
    have HR2 : Hid (Rd w2 r2 W (bl W (wsign W x x))) := by unfold Hid; rw [HE.out]; exact Bs.rd hB2 (bl_len W _).symm
    clear HR HE hB2
    go_wp2_with fail
    go_ret
    exact ⟨_, _, rfl, HR2.out, hb1.trans (hb2.mono hb1.size)⟩

theorem bl_top {W x : Nat} (h1 : 1 ≤ W) : (bl W x).set (W - 1) (!x.testBit (W - 1)) = bl W (top W x) := by
  apply List.ext_getElem?; intro j
  rw [List.getElem?_set]
  by_cases hj : j < W
  · by_cases hk : W - 1 = j
    · subst hk
      simp [bl, hj, top, Nat.testBit_xor, Nat.testBit_two_pow_self]
    · simp [bl, hj, hk, top, Nat.testBit_xor, Nat.testBit_two_pow]
  · have : ¬ W - 1 = j := by omega
    simp [bl, hj, this]

theorem app_list {w w' : World} {base n m : Nat} {v v' : Value} {l k : List Bool} (h : Bs w base v l) (hn : n = l.length) (hm : m = k.length) (ho : w'.ownsRow base 4 1 v' (n + m) (bv l ++ bv k)) (hg : w.grownBy w' v.ownBlock) (hb : base ≤ w.heap.size) :
    Bs w' base v' (l ++ k) ∧ Below base w w' := by
  subst hn hm
  refine ⟨?_, ?_⟩
  · unfold Bs
    rw [bv_app, List.length_append]; exact ho
  · exact (Below.refl base w).grown hg hb (fun q hq => (World.ownsRow.lt h q hq).1)
theorem app_copy {w w' : World} {base W x : Nat} {v' : Value} (h1 : 1 ≤ W) (hb : base ≤ w.heap.size) (ho : w'.ownsRow base 4 1 v' (0 + W) (bv [] ++ bv (bl W x))) (hg : w.grownBy w' (Value.slice none 0 0).ownBlock) :
    ∃ r cap, v' = .slice (some ⟨r, 0, none⟩) W cap ∧ Bs w' base (.slice (some ⟨r, 0, none⟩) W cap) (bl W x) ∧ Below base w w' := by
  obtain ⟨hB, hb'⟩ := app_list (k := bl W x) (l := []) (v := .slice none 0 0) (base := base) (World.ownsRow_nil _ _ _ _) rfl (bl_len W x).symm ho hg hb
  rw [List.nil_append] at hB
  have hl := bl_len W x
  rcases hB.2 with ⟨-, h0⟩ | ⟨r, cap, cur, rfl, -⟩
  · omega
  · have hB2 := hB
    rw [hl] at hB2
    exact ⟨r, cap, by rw [hl], hB2, hb'⟩

set_option maxRecDepth 20000 in
set_option maxHeartbeats 800000 in
theorem rturned {w : World} {g c W x : Nat} (h : Rd w g W (bl W x)) (h1 : 1 ≤ W) (hW : W ≤ 128) :
    Calls Tryz.prog 51 #[.slice (some ⟨g, 0, none⟩) W c] w (Rw W (top W x) w) := by
  have HG : Hid (∀ j u, (bv (bl W x))[j]? = some u → w.cell? ((⟨g, 0, none⟩ : Addr).add j) = some u) := fun j u hu => by
    rw [bv_get] at hu
    by_cases hj : j < W
    · rw [bl_get hj] at hu
      simp only [Option.map_some, Option.some.injEq] at hu
      rw [← hu, show ((⟨g, 0, none⟩ : Addr).add j) = ⟨g, j, none⟩ by (simp [Addr.add]); exact fun h => h.symm]
      exact Rd.bit h hj
    · have : (bl W x)[j]? = none := by simp [bl, hj]
      rw [this] at hu; cases hu
  clear h
  obtain ⟨i0, hi, hz0, hz1, hz2⟩ := info4
  have HI4 : Hid (Tryz.prog.info? 4 = some i0 ∧ i0.zero = some (.bool false) ∧ i0.size = 1 ∧ i0.bytes = 1) := ⟨hi, hz0, hz1, hz2⟩
  clear hi hz0 hz1 hz2
  go_enter Tryz.func51, Tryz.ntmps51
  go_wp2_with (at_builtin; refine wpList_append_own _ rfl (.const (.slice none 0 0)) (.tmp 4) 33 rfl w.heap.size 4 i0 (.bool false) 1 1 Tryz.underlying33 HI4.out.1 HI4.out.2.1 HI4.out.2.2.1 HI4.out.2.2.2 rfl (by decide) (.slice none 0 0) 0 (bv []) rfl (World.ownsRow_nil _ _ _ _) ⟨g, 0, none⟩ W c (bv (bl W x)) rfl (by simp [bv, bl]) HG.out (bv_one _) (by unfold maxLen; omega) (by omega) (by omega) ?_; intro v' w6 hown hgrow hnil; clear hnil; obtain ⟨r, cap, rfl, hB6, hb6⟩ := app_copy h1 (Nat.le_refl _) hown hgrow; clear hown hgrow HG; have hc6 : w6.cell? ⟨r, W - 1, none⟩ = some (.bool (x.testBit (W - 1))) := Bs.cell hB6 (bl_len W x).symm (bl_get (by omega)); have hf6 : w6.frozen? ⟨r, W - 1, none⟩ = false := Bs.frozen hB6 (bl_len W x).symm (W - 1); have HB6 : Hid (Bs w6 w.heap.size (.slice (some ⟨r, 0, none⟩) W cap) (bl W x)) := hB6; have h0 : (0 : Int) ≤ (W : Int) - 1 := (by omega); have h1' : (W : Int) - 1 < W := (by omega); have h2 : ((W : Int) - 1).toNat = W - 1 := (by omega); clear hB6)
  go_ret
  have h := Bs.store HB6.out (bl_len W x).symm (W - 1) (!x.testBit (W - 1))
  rw [bl_top h1] at h
  have hlt := (Bs.lt HB6.out).1
  exact ⟨_, _, rfl, Bs.rd h (bl_len W _).symm, hb6.setCell hlt _⟩
end Go.Proofs.YtohfjpahdoodgaaGreatDoor.Ag

/- Contracts: complement, sum, difference, product, the order, a bit. -/
namespace Go.Proofs.YtohfjpahdoodgaaGreatDoor.Ag
open Go.RowKit
set_option linter.unusedSimpArgs false
set_option linter.unusedVariables false

set_option maxHeartbeats 1000000 in
theorem mul64_any (x y : Nat) (hx : x < 18446744073709551616) (hy : y < 18446744073709551616) (w : World) :
    Calls Tryz.prog 94 #[.int .u64 x, .int .u64 y] w fun e w' => e = .returned (.tuple #[.int .u64 ((x * y / 18446744073709551616 : Nat) : Int), .int .u64 ((x * y % 18446744073709551616 : Nat) : Int)]) ∧ w' = w := by
  obtain ⟨bd, bt, bw, hhi⟩ := Lib.mul64_hi x y hx hy
  have ba := Lib.half_mul_le (a := x / 4294967296) (b := y / 4294967296) (by omega) (by omega)
  have bb := Lib.half_mul_le (a := x / 4294967296) (b := y % 4294967296) (by omega) (by omega)
  have bc := Lib.half_mul_le (a := x % 4294967296) (b := y / 4294967296) (by omega) (by omega)
  have ba' : x / 4294967296 * (y / 4294967296) < 18446744073709551616 := by omega
  have bb' : x / 4294967296 * (y % 4294967296) < 18446744073709551616 := by omega
  have bc' : x % 4294967296 * (y / 4294967296) < 18446744073709551616 := by omega
  have bh1 : x / 4294967296 * (y / 4294967296) + (x / 4294967296 * (y % 4294967296) + x % 4294967296 * (y % 4294967296) / 4294967296) / 4294967296 < 18446744073709551616 := by omega
  have bh : x / 4294967296 * (y / 4294967296) + (x / 4294967296 * (y % 4294967296) + x % 4294967296 * (y % 4294967296) / 4294967296) / 4294967296 + ((x / 4294967296 * (y % 4294967296) + x % 4294967296 * (y % 4294967296) / 4294967296) % 4294967296 + x % 4294967296 * (y / 4294967296)) / 4294967296 < 18446744073709551616 := by omega
  go_enter Tryz.func94, Tryz.ntmps94
  go_wp2
  simp only [Mul64.maskN x hx, Mul64.maskN y hy, Mul64.divN, Mul64.mulN, Mul64.addN, Mul64.wrapN _ bd, Mul64.wrapN _ bb', Mul64.wrapN _ bt, Mul64.maskN _ bt, Mul64.wrapN _ bc', Mul64.wrapN _ bw, Mul64.wrapN _ ba', Mul64.wrapN _ bh1, Mul64.wrapN _ bh, Mul64.wrapM (x * y)]
  rw [hhi]
  go_ret2
  exact ⟨rfl, rfl⟩

theorem mul64_w (n m : Nat) (w : World) :
    Calls Tryz.prog 94 #[.int .u64 (LO n), .int .u64 (LO m)] w fun e w' => e = .returned (.tuple #[.int .u64 (mulH n m), .int .u64 (mulL n m)]) ∧ w' = w := mul64_any _ _ (lo_lt n) (lo_lt m) w

theorem ret_bool {a b : Bool} (h : a = b) : Ending.returned (.bool a) = .returned (.bool b) := by rw [h]

theorem field_w (a b c : Int) (w : World) : (Instr.field 47 (.agg #[.int .i64 a, .int .u64 b, .int .u64 c]) 0).run Tryz.prog w = .ok (.int .i64 a) w := by kernel_rfl
theorem field_lo (a b c : Int) (w : World) : (Instr.field 47 (.agg #[.int .i64 a, .int .u64 b, .int .u64 c]) 1).run Tryz.prog w = .ok (.int .u64 b) w := by kernel_rfl
theorem field_hi (a b c : Int) (w : World) : (Instr.field 47 (.agg #[.int .i64 a, .int .u64 b, .int .u64 c]) 2).run Tryz.prog w = .ok (.int .u64 c) w := by kernel_rfl

end Go.Proofs.YtohfjpahdoodgaaGreatDoor.Ag

/- Contracts: long division. -/
namespace Go.Proofs.YtohfjpahdoodgaaGreatDoor.Ag
open Go.RowKit
set_option linter.unusedSimpArgs false
set_option linter.unusedVariables false

/-- Two numbers alike, as a Bool that no simp set opens. -/
def eqB (n m : Nat) : Bool := decide (n = m)
theorem halves {n m : Nat} (h : LO n = LO m) (h2 : HI n = HI m) : n = m := by
  unfold LO at h; unfold HI at h2; omega
theorem eq_w (W n m : Nat) (w : World) : (binOp .eql 47 (.agg #[.int .i64 W, .int .u64 (LO (n)), .int .u64 (HI (n))]) (.agg #[.int .i64 W, .int .u64 (LO (m)), .int .u64 (HI (m))])).run Tryz.prog w = .ok (.bool (eqB n m)) w := by
  simp only [eqB]
  by_cases h : n = m
  · subst h; simp [go_sem]
  · have e : decide (n = m) = false := by simp [h]
    rw [e]
    by_cases h1 : LO n = LO m
    · have h2 : ¬ HI n = HI m := fun h2 => h (halves h1 h2)
      simp [go_sem, h1, h2]
    · simp [go_sem, h1]
theorem neq_w (W n m : Nat) (w : World) : (binOp .neq 47 (.agg #[.int .i64 W, .int .u64 (LO (n)), .int .u64 (HI (n))]) (.agg #[.int .i64 W, .int .u64 (LO (m)), .int .u64 (HI (m))])).run Tryz.prog w = .ok (.bool (!eqB n m)) w := by
  simp only [eqB]
  by_cases h : n = m
  · subst h; simp [go_sem]
  · have e : decide (n = m) = false := by simp [h]
    rw [e]
    by_cases h1 : LO n = LO m
    · have h2 : ¬ HI n = HI m := fun h2 => h (halves h1 h2)
      simp [go_sem, h1, h2]
    · simp [go_sem, h1]
theorem eqB_no {n m : Nat} (h : n ≠ m) : eqB n m = false := by simp [eqB, h]
theorem eqB_yes {n m : Nat} (h : n = m) : eqB n m = true := by simp [eqB, h]

def dbl (W n : Nat) : Nat := n * 2 ^ 1 % 2 ^ W
theorem dbl_lt (W n : Nat) : dbl W n < 2 ^ W := mod_lt_W _ W
theorem dbl_even {W r : Nat} (h1 : 1 ≤ W) : dbl W r % 2 = 0 := twice_even h1
theorem dbl_succ {W r : Nat} (h1 : 1 ≤ W) : dbl W r + 1 < 2 ^ W := by
  have a := dbl_lt W r
  have b := dbl_even (r := r) h1
  have c := pow_pred h1
  omega
theorem ltB_yes {n m : Nat} (h : n < m) : ltB n m = true := by simp [ltB, h]
theorem ltB_no {n m : Nat} (h : ¬ n < m) : ltB n m = false := by simp [ltB, h]
theorem sub_res {W S m r : Nat} (h : S + 2 ^ W = r + m ∨ S = r + m) (hr : r < 2 ^ W) (hm : m < 2 ^ W) : (S + (2 ^ W - m)) % 2 ^ W = r := by
  rcases h with h | h
  · rw [show S + (2 ^ W - m) = r from by omega, Nat.mod_eq_of_lt hr]
  · rw [show S + (2 ^ W - m) = r + 2 ^ W from by omega, Nat.add_mod_right, Nat.mod_eq_of_lt hr]

end Go.Proofs.YtohfjpahdoodgaaGreatDoor.Ag

/- Contracts: bit by bit, sums by operator, signs, shifts, comparisons. -/
namespace Go.Proofs.YtohfjpahdoodgaaGreatDoor.Ag
open Go.RowKit
set_option linter.unusedSimpArgs false
set_option linter.unusedVariables false

end Go.Proofs.YtohfjpahdoodgaaGreatDoor.Ag

/- Contracts: quotients and rests. -/
namespace Go.Proofs.YtohfjpahdoodgaaGreatDoor.Ag
open Go.RowKit
set_option linter.unusedSimpArgs false
set_option linter.unusedVariables false

def udiv (W n m : Nat) : Nat := if m = 0 then 2 ^ W - 1 else n / m
def urem (n m : Nat) : Nat := if m = 0 then n else n % m
theorem udiv_lt {W n m : Nat} (h : n < 2 ^ W) : udiv W n m < 2 ^ W := by
  unfold udiv; have := Nat.two_pow_pos W; split
  · omega
  · exact Nat.lt_of_le_of_lt (Nat.div_le_self _ _) h
theorem urem_lt {W n m : Nat} (h : n < 2 ^ W) : urem n m < 2 ^ W := by
  unfold urem; split
  · exact h
  · exact Nat.lt_of_le_of_lt (Nat.mod_le _ _) h

end Go.Proofs.YtohfjpahdoodgaaGreatDoor.Ag
