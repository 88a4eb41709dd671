/- Contracts: the document's quotient and rest of lists of bits. -/
import Derived.Deep.CutRange
import Derived.Deep.DeepCutAuto
import Derived.Test.YtohfjpahdoodgaaGreatDoorMg44
namespace Go.Proofs.YtohfjpahdoodgaaGreatDoor.Ag
open Go.RowKit
set_option linter.unusedSimpArgs false
set_option linter.unusedVariables false

theorem bl_set0 {W r : Nat} {b : Bool} : (bl W (r * 2 ^ 1)).set 0 b = bl W (2 * r + b.toNat) := by
  apply List.ext_getElem?; intro j
  rw [List.getElem?_set]
  by_cases hj : j < W
  · cases j with
    | zero =>
      simp only [bl, List.getElem?_map, List.getElem?_range hj, Option.map_some, List.length_map, List.length_range, if_pos hj, if_true, Nat.testBit_zero]
      cases b
      · simp
      · simp only [Bool.toNat_true]; congr 1; symm; simp only [decide_eq_true_eq]; omega
    | succ j =>
      have e1 : r * 2 ^ 1 / 2 = r := by omega
      have e2 : (2 * r + b.toNat) / 2 = r := by have : b.toNat ≤ 1 := by cases b <;> decide
                                                omega
      simp only [bl, List.getElem?_map, List.getElem?_range hj, Option.map_some, Nat.testBit_succ, e1, e2]
      simp
  · simp only [bl, List.getElem?_map, List.length_map, List.length_range]
    have : (List.range W)[j]? = none := by simp; omega
    rw [this]
    by_cases h0 : 0 = j
    · subst h0; simp [hj]
    · simp [h0]
theorem bl_setq {W Q q : Nat} (hq : q < W) : (bl W (Q * 2 ^ (q + 1))).set q true = bl W ((2 * Q + 1) * 2 ^ q) := by
  apply List.ext_getElem?; intro j
  rw [List.getElem?_set]
  by_cases hj : j < W
  · simp only [bl, List.getElem?_map, List.getElem?_range hj, Option.map_some, List.length_map, List.length_range, Nat.testBit_mul_two_pow]
    by_cases hjq : q = j
    · subst hjq
      rw [if_pos rfl, if_pos hq]
      simp only [Nat.sub_self, Nat.testBit_zero]
      congr 1
      simp
    · rw [if_neg hjq]
      congr 1
      by_cases hl : j < q
      · have h1 : ¬ (q + 1 ≤ j) := by omega
        have h2 : ¬ (q ≤ j) := by omega
        simp [h1, h2]
      · have h1 : q + 1 ≤ j := by omega
        have h2 : q ≤ j := by omega
        obtain ⟨d, rfl⟩ : ∃ d, j = q + 1 + d := ⟨j - (q + 1), by omega⟩
        have e1 : q + 1 + d - (q + 1) = d := by omega
        have e2 : q + 1 + d - q = d + 1 := by omega
        have e3 : (2 * Q + 1) / 2 = Q := by omega
        rw [e1, e2, Nat.testBit_succ, e3]
        simp
        omega
  · have h : (List.range W)[j]? = none := by simp; omega
    have : ¬ q = j := by omega
    simp [bl, this, hj]
theorem over_is {W r : Nat} (h1 : 1 ≤ W) (hr : r < 2 ^ W) : (r.testBit (W - 1) = true → 2 ^ W ≤ 2 * r) ∧ (r.testBit (W - 1) = false → 2 * r + 1 < 2 ^ W) := by
  obtain ⟨V, rfl⟩ : ∃ V, W = V + 1 := ⟨W - 1, by omega⟩
  rw [Nat.add_sub_cancel, Nat.testBit_eq_decide_div_mod_eq]
  rw [Nat.pow_succ] at *
  have hp := Nat.two_pow_pos V
  generalize 2 ^ V = P at *
  by_cases h : r < P
  · rw [Nat.div_eq_of_lt h]; simp; omega
  · have : r / P = 1 := by
      apply Nat.div_eq_of_lt_le <;> omega
    rw [this]; simp; omega
/-- One round of the division: what is left, what is found. -/
theorem div_take {x y X q W : Nat} {b : Bool} (hX : x / 2 ^ q = 2 * X + b.toNat) (hy : 0 < y) (hyW : y < 2 ^ W) (hge : y ≤ 2 * (X % y) + b.toNat) :
    bl W (2 * (X % y) + b.toNat + (2 ^ W - y)) = bl W (x / 2 ^ q % y) ∧ (2 * (X / y) + 1) * 2 ^ q = x / 2 ^ q / y * 2 ^ q := by
  have hb : b.toNat ≤ 1 := by cases b <;> decide
  have h := (Nat.div_add_mod X y)
  have hlt : X % y < y := Nat.mod_lt _ hy
  have e : 2 * X + b.toNat = y * (2 * (X / y) + 1) + (2 * (X % y) + b.toNat - y) := by
    rw [Nat.mul_add, Nat.mul_left_comm]; omega
  have hsm : 2 * (X % y) + b.toNat - y < y := by omega
  have e1 : (2 * X + b.toNat) % y = 2 * (X % y) + b.toNat - y := by rw [e, Nat.mul_add_mod, Nat.mod_eq_of_lt hsm]
  have e2 : (2 * X + b.toNat) / y = 2 * (X / y) + 1 := by rw [e, Nat.mul_add_div hy, Nat.div_eq_of_lt hsm]
  rw [hX, e1, e2]
  refine ⟨bl_congr ?_, rfl⟩
  have : 2 * (X % y) + b.toNat + (2 ^ W - y) = (2 * (X % y) + b.toNat - y) + 2 ^ W := by omega
  rw [this, Nat.add_mod_right]
theorem div_leave {x y X q : Nat} {b : Bool} (hX : x / 2 ^ q = 2 * X + b.toNat) (hy : 0 < y) (hlt : 2 * (X % y) + b.toNat < y) :
    2 * (X % y) + b.toNat = x / 2 ^ q % y ∧ X / y * 2 ^ (q + 1) = x / 2 ^ q / y * 2 ^ q := by
  have h := (Nat.div_add_mod X y)
  have e : 2 * X + b.toNat = y * (2 * (X / y)) + (2 * (X % y) + b.toNat) := by
    rw [Nat.mul_left_comm]; omega
  rw [hX, e, Nat.mul_add_mod, Nat.mod_eq_of_lt hlt, Nat.mul_add_div hy, Nat.div_eq_of_lt hlt]
  refine ⟨rfl, ?_⟩
  rw [Nat.pow_succ, Nat.add_zero, Nat.mul_comm (2 ^ q) 2, ← Nat.mul_assoc, Nat.mul_comm _ 2]

theorem rup1 {w : World} {g c W x : Nat} (h : Rd w g W (bl W x)) (hW : W ≤ 128) (h1 : 1 ≤ W) :
    Calls Tryz.prog 82 #[.slice (some ⟨g, 0, none⟩) W c, .int .i64 1] w (Nw W (x * 2 ^ 1) w) := rup (n := 1) h hW h1

theorem Rd.src {w : World} {g W x : Nat} (h : Rd w g W (bl W x)) : ∀ j u, (bv (bl W x))[j]? = some u → w.cell? ((⟨g, 0, none⟩ : Addr).add j) = some u := fun j u hu => by
  rw [bv_get] at hu
  by_cases hj : j < W
  · rw [bl_get hj] at hu
    simp only [Option.map_some, Option.some.injEq] at hu
    rw [← hu, show ((⟨g, 0, none⟩ : Addr).add j) = ⟨g, j, none⟩ by (simp [Addr.add]); exact fun h => h.symm]
    exact Rd.bit h hj
  · have : (bl W x)[j]? = none := by simp [bl, hj]
    rw [this] at hu; cases hu

/-- What the division leaves. -/
abbrev Dw (W x y : Nat) (w : World) (e : Ending) (w' : World) : Prop := ∃ q r cq cr, e = .returned (.tuple #[.slice (some ⟨q, 0, none⟩) W cq, .slice (some ⟨r, 0, none⟩) W cr]) ∧ Rd w' q W (bl W (udiv W x y)) ∧ Rd w' r W (bl W (urem x y)) ∧ Below w.heap.size w w'

set_option maxRecDepth 20000 in
set_option maxHeartbeats 3200000 in
theorem rdiv {w : World} {g g' c c' W x y : Nat} (ha : Rd w g W (bl W x)) (hb : Rd w g' W (bl W y)) (h1 : 1 ≤ W) (hW : W ≤ 128) (hx : x < 2 ^ W) (hy : y < 2 ^ W) :
    Calls Tryz.prog 77 #[.slice (some ⟨g, 0, none⟩) W c, .slice (some ⟨g', 0, none⟩) W c'] w (Dw W x y w) := by
  have hmk := make_bools W hW
  have HA : Hid (Rd w g W (bl W x)) := ha
  have HY : Hid (Rd w g' W (bl W y)) := hb
  clear ha hb
  obtain ⟨i0, hi, hz0, hz1, hz2⟩ := info4
  have HI4 : Hid (Tryz.prog.info? 4 = some i0 ∧ i0.zero = some (.bool false) ∧ i0.size = 1 ∧ i0.bytes = 1) := ⟨hi, hz0, hz1, hz2⟩
  clear hi hz0 hz1 hz2
  go_enter Tryz.func77, Tryz.ntmps77
  go_upto_region 1 with fail
  go_cut [6, 7] (fun u v wx => ∃ bq br : Nat, u = .slice (some ⟨bq, 0, none⟩) W W ∧ v = .slice (some ⟨br, 0, none⟩) W W ∧ bq ≠ br ∧ Bs wx w.heap.size (.slice (some ⟨bq, 0, none⟩) W W) (bl W 0) ∧ Bs wx w.heap.size (.slice (some ⟨br, 0, none⟩) W W) (bl W 0) ∧ Below w.heap.size w wx)
  case first =>
    go_region
    all_goals
      go_wp2_with fail
      go_meet
    all_goals
      refine ⟨_, _, rfl, rfl, ?_, ?_, ?_, ?_⟩
    all_goals first
      | (simp; done)
      | exact Bs.drew (Bs.alloc (by rw [bl_zero]; exact Bs.made W (Nat.le_refl _) (by omega)) _)
      | (have h := Bs.made (w := w.alloc (.cells (Array.replicate W (.bool false)) 4)) (base := w.heap.size) W (by simp) (by omega); rw [World.size_alloc] at h; rw [bl_zero]; exact Bs.drew h)
      | go_grown
  case rest =>
    obtain ⟨bq, br, rfl, rfl, hne, hQ, hR, hbl⟩ := hcut
    have HQ : Hid (Bs wc w.heap.size (.slice (some ⟨bq, 0, none⟩) W W) (bl W 0)) := hQ
    have HR : Hid (Bs wc w.heap.size (.slice (some ⟨br, 0, none⟩) W W) (bl W 0)) := hR
    have HAc : Hid (Rd wc g W (bl W x)) := Rd.keepB HA.out HA.out.2.1 hbl
    have HYc : Hid (Rd wc g' W (bl W y)) := Rd.keepB HY.out HY.out.2.1 hbl
    clear hQ hR
    by_cases h0 : y = 0
    · have HZ := rzero (c := c') HYc.out hW hy
      rw [show decide (y = 0) = true by simp [h0]] at HZ
      have HZH : Hid _ := HZ
      clear HZ
      have HU : Hid (udiv W x y = 2 ^ W - 1 - 0) := by unfold Hid udiv; rw [if_pos h0]; rfl
      have HV : Hid (urem x y = x) := by unfold Hid urem; rw [if_pos h0]
      clear hmk
      go_wp2_with fail
      refine Calls.mono HZH.out ?_
      rintro e w1 ⟨rfl, hb1⟩
      have HQ1 : Hid (Rd w1 bq W (bl W 0)) := Bs.rd (Bs.keep HQ.out hb1) (bl_len W _).symm
      have hbl1 : Below w.heap.size w w1 := hbl.trans (hb1.mono hbl.size)
      clear HZH hb1 hbl HAc HYc HQ HR
      go_wp2_with fail
      refine (rnot (x := 0) HQ1.out hW (Nat.two_pow_pos W)).mono ?_
      rintro e w2 ⟨r2, rfl, hB2, hb2⟩
      have HN2 : Hid (Rd w2 r2 W (bl W (2 ^ W - 1 - 0))) := Bs.rd hB2 (bl_len W _).symm
      have hbl2 : Below w.heap.size w w2 := hbl1.trans (hb2.mono hbl1.size)
      have HG : Hid _ := Rd.src (Rd.keepB HA.out HA.out.2.1 hbl2)
      clear HQ1 hB2 hb2 hbl1
      go_wp2_with (at_builtin; refine wpList_append_own _ rfl (.const (.slice none 0 0)) (.tmp 20) 33 rfl w2.heap.size 4 i0 (.bool false) 1 1 Tryz.underlying33 HI4.out.1 HI4.out.2.1 HI4.out.2.2.1 HI4.out.2.2.2 rfl (by decide) (.slice none 0 0) 0 (bv []) rfl (World.ownsRow_nil _ _ _ _) ⟨g, 0, none⟩ W c (bv (bl W x)) rfl (by simp [bv, bl]) HG.out (bv_one _) (by unfold maxLen; omega) (by omega) (by omega) ?_; intro v' w6 hown hgrow hnil; clear hnil; obtain ⟨r, cap, rfl, hB6, hb6⟩ := app_copy h1 (Nat.le_refl _) hown hgrow; clear hown hgrow HG; have HR6 : Hid (Rd w6 r W (bl W x)) := Bs.rd hB6 (bl_len W _).symm; have HN6 : Hid (Rd w6 r2 W (bl W (2 ^ W - 1 - 0))) := Rd.keep HN2.out hb6; have hbl6 : Below w.heap.size w w6 := hbl2.trans (hb6.mono hbl2.size); clear hB6 hb6)
      refine bodyPost_ret (v := .tuple #[.slice (some ⟨r2, 0, none⟩) W W, .slice (some ⟨r, 0, none⟩) W cap]) (by simp [results, Tryz.results77, go_sem]) rfl ?_
      exact ⟨_, _, _, _, rfl, by rw [HU.out]; exact HN6.out, by rw [HV.out]; exact HR6.out, hbl6⟩
    · have hy0 : 0 < y := by omega
      have HZ := rzero (c := c') HYc.out hW hy
      rw [show decide (y = 0) = false by simp [h0]] at HZ
      have HZH : Hid _ := HZ
      clear HZ
      go_wp2_with fail
      refine Calls.mono HZH.out ?_
      rintro e w1 ⟨rfl, hb1⟩
      have HQ1 : Hid (Bs w1 w.heap.size (.slice (some ⟨bq, 0, none⟩) W W) (bl W 0)) := Bs.keep HQ.out hb1
      have HR1 : Hid (Bs w1 w.heap.size (.slice (some ⟨br, 0, none⟩) W W) (bl W 0)) := Bs.keep HR.out hb1
      have hbl1 : Below w.heap.size w w1 := hbl.trans (hb1.mono hbl.size)
      clear HZH hb1 hbl HAc HYc HQ HR hmk
      go_wp2_with fail
      go_loopw [8, 7] (fun i v wr => ∃ k br : Nat, k ≤ W ∧ i = .int .i64 ((k : Int) - 1) ∧ v = .slice (some ⟨br, 0, none⟩) W W ∧ bq ≠ br ∧ Bs wr w.heap.size (.slice (some ⟨bq, 0, none⟩) W W) (bl W (x / 2 ^ k / y * 2 ^ k)) ∧ Bs wr w.heap.size (.slice (some ⟨br, 0, none⟩) W W) (bl W (x / 2 ^ k % y)) ∧ Below w.heap.size w wr) (fun i _ _ => (intOf i + 1).toNat)
      case atStart =>
        have e : x / 2 ^ W = 0 := Nat.div_eq_of_lt hx
        refine ⟨W, br, Nat.le_refl _, rfl, rfl, hne, ?_, ?_, hbl1⟩
        · rw [e]; simpa using HQ1.out
        · rw [e]; simpa using HR1.out
      case round =>
        clear HQ1 HR1 hbl1 hne
        obtain ⟨k, br, hk, rfl, rfl, hne, hQ, hR, hbl⟩ := hrel
        have HQ : Hid (Bs wr w.heap.size (.slice (some ⟨bq, 0, none⟩) W W) (bl W (x / 2 ^ k / y * 2 ^ k))) := hQ
        have HR : Hid (Bs wr w.heap.size (.slice (some ⟨br, 0, none⟩) W W) (bl W (x / 2 ^ k % y))) := hR
        clear hQ hR
        by_cases hk0 : 0 < k
        · obtain ⟨q, rfl⟩ : ∃ q, k = q + 1 := ⟨k - 1, by omega⟩
          have hq1 : ((q + 1 : Nat) : Int) - 1 = (q : Int) := by omega
          rw [hq1]
          have hqW : q < W := by omega
          have hqI : (q : Int) < (W : Int) := by omega
          clear hq1 hk0
          obtain ⟨X, hX⟩ : ∃ X, X = x / 2 ^ (q + 1) := ⟨_, rfl⟩
          obtain ⟨b, hb⟩ : ∃ b, b = x.testBit q := ⟨_, rfl⟩
          have HST : Hid (x / 2 ^ q = 2 * X + b.toNat) := by unfold Hid; rw [hX, hb]; exact high_step
          have hrl : X % y < y := Nat.mod_lt _ hy0
          rw [← hX] at HQ HR
          obtain ⟨ov, hov⟩ : ∃ ov, ov = (X % y).testBit (W - 1) := ⟨_, rfl⟩
          have hOV := over_is (r := X % y) h1 (by omega)
          rw [← hov] at hOV
          have HOV : Hid ((ov = true → 2 ^ W ≤ 2 * (X % y)) ∧ (ov = false → 2 * (X % y) + 1 < 2 ^ W)) := hOV
          have hcr : wr.cell? ⟨br, W - 1, none⟩ = some (.bool ov) := by rw [hov]; exact Bs.cell HR.out (bl_len W _).symm (bl_get (by omega))
          have hca : wr.cell? ⟨g, q, none⟩ = some (.bool b) := by rw [hb]; exact Rd.bit (Rd.keepB HA.out HA.out.2.1 hbl) hqW
          have hga := HA.out.2.1
          have i0' : (0 : Int) ≤ (W : Int) - 1 := by omega
          have i1' : (W : Int) - 1 < W := by omega
          have i2' : ((W : Int) - 1).toNat = W - 1 := by omega
          have hb1 : b.toNat ≤ 1 := by cases b <;> decide
          have HRR : Hid (Rd wr br W (bl W (X % y))) := Bs.rd HR.out (bl_len W _).symm
          clear hX hb hov hOV
          go_wp2_with fail
          refine (rup1 HRR.out hW h1).mono ?_
          rintro e w1 ⟨r1, rfl, hB1, hb1'⟩
          have hz := hbl.size
          have hc1 : w1.cell? ⟨r1, 0, none⟩ = some (.bool ((X % y * 2 ^ 1).testBit 0)) := Bs.cell hB1 (bl_len W _).symm (bl_get (by omega))
          have hf1 : w1.frozen? ⟨r1, 0, none⟩ = false := Bs.frozen hB1 (bl_len W _).symm 0
          have hca1 : w1.cell? ⟨g, q, none⟩ = some (.bool b) := keep_cell hb1' hca
          have hne1 : bq ≠ r1 := by have := (Bs.lt HQ.out).2; have := (Bs.lt hB1).1; omega
          have hQ1 := Bs.keep HQ.out hb1'
          have hbl1 : Below w.heap.size w w1 := hbl.trans (hb1'.mono hz)
          have HQs : Hid (Bs (w1.setCell ⟨r1, 0, none⟩ (.bool b)) w.heap.size (.slice (some ⟨bq, 0, none⟩) W W) (bl W (X / y * 2 ^ (q + 1)))) := Bs.far hQ1 (by exact fun e => hne1 e.symm) _
          have HRB : Hid (Bs (w1.setCell ⟨r1, 0, none⟩ (.bool b)) w.heap.size (.slice (some ⟨r1, 0, none⟩) W W) (bl W (2 * (X % y) + b.toNat))) := by
            have h := Bs.store hB1 (bl_len W _).symm 0 b
            rw [bl_set0] at h; exact Bs.mono h hz
          have HRs : Hid (Rd (w1.setCell ⟨r1, 0, none⟩ (.bool b)) r1 W (bl W (2 * (X % y) + b.toNat))) := Bs.rd HRB.out (bl_len W _).symm
          have hbls : Below w.heap.size w (w1.setCell ⟨r1, 0, none⟩ (.bool b)) := hbl1.setCell (Nat.le_trans hz (Bs.lt hB1).1) _
          have HYs : Hid (Rd (w1.setCell ⟨r1, 0, none⟩ (.bool b)) g' W (bl W y)) := Rd.keepB HY.out HY.out.2.1 hbls
          clear hQ1 hB1 hb1' hbl1 HQ HR hbl HRR hcr hca hne
          cases ov
          · have hlt := HOV.out.2 rfl
            have hRW : 2 * (X % y) + b.toNat < 2 ^ W := by omega
            have HBL := rbelow (c := W) (c' := c') HRs.out HYs.out hW hRW hy
            by_cases hge : y ≤ 2 * (X % y) + b.toNat
            · rw [show decide (2 * (X % y) + b.toNat < y) = false by simp; omega] at HBL
              have HBH : Hid _ := HBL
              clear HBL
              go_wp2_with fail
              refine Calls.mono HBH.out ?_
              rintro e w2 ⟨rfl, hb2⟩
              have HQ2 : Hid (Bs w2 w.heap.size (.slice (some ⟨bq, 0, none⟩) W W) (bl W (X / y * 2 ^ (q + 1)))) := Bs.keep HQs.out hb2
              have hbl2 : Below w.heap.size w w2 := hbls.trans (hb2.mono hbls.size)
              have HY2 : Hid (Rd w2 g' W (bl W y)) := Rd.keep HYs.out hb2
              replace HRs : Hid (Rd w2 r1 W (bl W (2 * (X % y) + b.toNat))) := Rd.keep HRs.out hb2
              clear HBH hb2 HQs hbls HYs hc1 hf1 hca1 HRB
              go_wp2_with fail
              refine (rsub HRs.out HY2.out hW hy).mono ?_
              rintro e w3 ⟨r3, rfl, hB3, hb3⟩
              have hTK := div_take (W := W) HST.out hy0 hy hge
              have HR3 : Hid (Bs w3 w.heap.size (.slice (some ⟨r3, 0, none⟩) W W) (bl W (x / 2 ^ q % y))) := by
                unfold Hid; rw [← hTK.1]; exact Bs.mono hB3 hbl2.size
              have hQ3 := Bs.keep HQ2.out hb3
              have hcq : w3.cell? ⟨bq, q, none⟩ = some (.bool ((X / y * 2 ^ (q + 1)).testBit q)) := Bs.cell hQ3 (bl_len W _).symm (bl_get hqW)
              have hfq : w3.frozen? ⟨bq, q, none⟩ = false := Bs.frozen hQ3 (bl_len W _).symm q
              have hne3 : bq ≠ r3 := by have := (Bs.lt HQ2.out).2; have := (Bs.lt hB3).1; omega
              have HQ3 : Hid (Bs (w3.setCell ⟨bq, q, none⟩ (.bool true)) w.heap.size (.slice (some ⟨bq, 0, none⟩) W W) (bl W (x / 2 ^ q / y * 2 ^ q))) := by
                have h := Bs.store hQ3 (bl_len W _).symm q true
                rw [bl_setq hqW, hTK.2] at h; exact h
              have HR4 : Hid (Bs (w3.setCell ⟨bq, q, none⟩ (.bool true)) w.heap.size (.slice (some ⟨r3, 0, none⟩) W W) (bl W (x / 2 ^ q % y))) := Bs.far HR3.out (by exact hne3) _
              have hbl3 : Below w.heap.size w w3 := hbl2.trans (hb3.mono hbl2.size)
              have hbl4 : Below w.heap.size w (w3.setCell ⟨bq, q, none⟩ (.bool true)) := hbl3.setCell (Bs.lt hQ3).1 _
              clear hTK hB3 hb3 hQ3 HR3 HQ2 HRs HY2
              go_wp2_with fail
              exact ⟨⟨q, r3, by omega, rfl, rfl, hne3, HQ3.out, HR4.out, hbl4⟩, by simp [intOf]⟩
            · rw [show decide (2 * (X % y) + b.toNat < y) = true by simp; omega] at HBL
              have HBH : Hid _ := HBL
              have hLV := div_leave HST.out hy0 (by omega)
              have HLV : Hid (2 * (X % y) + b.toNat = x / 2 ^ q % y ∧ X / y * 2 ^ (q + 1) = x / 2 ^ q / y * 2 ^ q) := hLV
              clear HBL hLV
              go_wp2_with fail
              refine Calls.mono HBH.out ?_
              rintro e w2 ⟨rfl, hb2⟩
              have HQ2 : Hid (Bs w2 w.heap.size (.slice (some ⟨bq, 0, none⟩) W W) (bl W (x / 2 ^ q / y * 2 ^ q))) := by unfold Hid; rw [← HLV.out.2]; exact Bs.keep HQs.out hb2
              have HR2 : Hid (Bs w2 w.heap.size (.slice (some ⟨r1, 0, none⟩) W W) (bl W (x / 2 ^ q % y))) := by unfold Hid; rw [← HLV.out.1]; exact Bs.keep HRB.out hb2
              have hbl2 : Below w.heap.size w w2 := hbls.trans (hb2.mono hbls.size)
              clear HBH hb2 HQs hbls HYs hc1 hf1 hca1 HLV HRB HRs
              go_wp2_with fail
              exact ⟨⟨q, r1, by omega, rfl, rfl, hne1, HQ2.out, HR2.out, hbl2⟩, by simp [intOf]⟩
          · have hge : y ≤ 2 * (X % y) + b.toNat := by have := HOV.out.1 rfl; omega
            have HQ2 := HQs
            have hbl2 := hbls
            have HY2 := HYs
            clear HQs hbls HYs HRB
            go_wp2_with fail
            refine (rsub HRs.out HY2.out hW hy).mono ?_
            rintro e w3 ⟨r3, rfl, hB3, hb3⟩
            have hTK := div_take (W := W) HST.out hy0 hy hge
            have HR3 : Hid (Bs w3 w.heap.size (.slice (some ⟨r3, 0, none⟩) W W) (bl W (x / 2 ^ q % y))) := by
              unfold Hid; rw [← hTK.1]; exact Bs.mono hB3 hbl2.size
            have hQ3 := Bs.keep HQ2.out hb3
            have hcq : w3.cell? ⟨bq, q, none⟩ = some (.bool ((X / y * 2 ^ (q + 1)).testBit q)) := Bs.cell hQ3 (bl_len W _).symm (bl_get hqW)
            have hfq : w3.frozen? ⟨bq, q, none⟩ = false := Bs.frozen hQ3 (bl_len W _).symm q
            have hne3 : bq ≠ r3 := by have := (Bs.lt HQ2.out).2; have := (Bs.lt hB3).1; omega
            have HQ3 : Hid (Bs (w3.setCell ⟨bq, q, none⟩ (.bool true)) w.heap.size (.slice (some ⟨bq, 0, none⟩) W W) (bl W (x / 2 ^ q / y * 2 ^ q))) := by
              have h := Bs.store hQ3 (bl_len W _).symm q true
              rw [bl_setq hqW, hTK.2] at h; exact h
            have HR4 : Hid (Bs (w3.setCell ⟨bq, q, none⟩ (.bool true)) w.heap.size (.slice (some ⟨r3, 0, none⟩) W W) (bl W (x / 2 ^ q % y))) := Bs.far HR3.out (by exact hne3) _
            have hbl3 : Below w.heap.size w w3 := hbl2.trans (hb3.mono hbl2.size)
            have hbl4 : Below w.heap.size w (w3.setCell ⟨bq, q, none⟩ (.bool true)) := hbl3.setCell (Bs.lt hQ3).1 _
            clear hTK hB3 hb3 hQ3 HR3 HQ2 HRs HY2
            go_wp2_with fail
            exact ⟨⟨q, r3, by omega, rfl, rfl, hne3, HQ3.out, HR4.out, hbl4⟩, by simp [intOf]⟩
        · obtain rfl : k = 0 := by omega
          have hd : udiv W x y = x / 2 ^ 0 / y * 2 ^ 0 := by unfold udiv; rw [if_neg h0]; simp
          have hm : urem x y = x / 2 ^ 0 % y := by unfold urem; rw [if_neg h0]; simp
          have HD : Hid _ := hd
          have HM : Hid _ := hm
          clear hd hm
          go_wp2_with fail
          refine bodyPost_ret (v := .tuple #[.slice (some ⟨bq, 0, none⟩) W W, .slice (some ⟨br, 0, none⟩) W W]) (by simp [results, Tryz.results77, go_sem]) rfl ?_
          refine ⟨_, _, _, _, rfl, ?_, ?_, hbl⟩
          · rw [HD.out]; exact Bs.rd HQ.out (bl_len W _).symm
          · rw [HM.out]; exact Bs.rd HR.out (bl_len W _).symm
end Go.Proofs.YtohfjpahdoodgaaGreatDoor.Ag
