/- Contracts: the document's operators on lists of bits: taken away, moved up and down; its questions; a shift's number. -/
import Derived.Test.YtnflphhckgeneaaGreatMg19
import Derived.Deep.RegionWith
import Derived.Test.YtnflphhckgeneaaGreatMg4
import Derived.Deep.AppendLies
namespace Go.Proofs.YtnflphhckgeneaaGreat
set_option maxHeartbeats 12800000
set_option maxRecDepth 100000
open Go.RowKit
set_option linter.unusedSimpArgs false
set_option linter.unusedVariables false

theorem nb_not {W : Nat} {l : List Bool} (hl : l.length = W) : nb ((List.range W).map fun j => !l.getD j false) = 2 ^ W - 1 - nb l := by
  have hlt := nb_lt l
  rw [hl] at hlt
  apply Nat.eq_of_testBit_eq; intro j
  rw [nb_bit, show 2 ^ W - 1 - nb l = 2 ^ W - (nb l + 1) by omega, Nat.testBit_two_pow_sub_succ hlt, nb_bit]
  by_cases hj : j < W <;> simp [hj]

theorem refsub_any {w : World} {g g' c c' W : Nat} {a b : List Bool} (ha : Rd w g W a) (hb : Rd w g' W b) (hW : W ≤ 128) :
    Calls Tryz.prog 124 #[.slice (some ⟨g, 0, none⟩) W c, .slice (some ⟨g', 0, none⟩) W c'] w fun e w' => ∃ r, e = .returned (.slice (some ⟨r, 0, none⟩) W W) ∧ Bs w' w.heap.size (.slice (some ⟨r, 0, none⟩) W W) ((List.range W).map (sumb a ((List.range W).map fun j => !b.getD j false) true)) ∧ Below w.heap.size w w' := by
  have HA : Hid _ := ha
  have HB : Hid _ := hb
  clear ha hb
  go_enter Tryz.func124, Tryz.ntmps124
  go_wp2_with fail
  refine (refnot_any HB.out hW).mono ?_
  rintro e w1 ⟨r1, rfl, hB1, hb1⟩
  have HN : Hid (Rd w1 r1 W ((List.range W).map fun j => !b.getD j false)) := Bs.rd hB1 (by simp)
  have HA1 : Hid (Rd w1 g W a) := Rd.keep HA.out hb1
  clear hB1 HA HB
  go_wp2_with fail
  refine (refadd_any HA1.out HN.out hW).mono ?_
  rintro e w2 ⟨r2, rfl, hB2, hb2⟩
  have HB2 : Hid _ := hB2
  clear hB2
  go_wp2_with fail
  go_ret
  exact ⟨_, rfl, Bs.mono HB2.out hb1.size, hb1.trans (hb2.mono hb1.size)⟩

theorem refup_any {w : World} {g c W n : Nat} {l : List Bool} (h : Rd w g W l) (hW : W ≤ 128) (hn : n ≤ W) :
    Calls Tryz.prog 129 #[.slice (some ⟨g, 0, none⟩) W c, .int .i64 (n : Int)] w fun e w' => ∃ b, e = .returned (.slice (some ⟨b, 0, none⟩) W W) ∧ Bs w' w.heap.size (.slice (some ⟨b, 0, none⟩) W W) ((List.range W).map fun j => decide (n ≤ j) && l.getD (j - n) false) ∧ Below w.heap.size w w' := by
  have hmk := make_bools W hW
  obtain ⟨hl, hg, hc⟩ := h
  have HC : Hid _ := hc
  clear hc hl
  obtain ⟨F, hF⟩ : ∃ F : Nat → Bool, F = fun j => decide (n ≤ j) && l.getD (j - n) false := ⟨_, rfl⟩
  have HF : Hid (∀ j, F j = (decide (n ≤ j) && l.getD (j - n) false)) := fun j => by rw [hF]
  rw [← hF]
  clear hF
  go_enter Tryz.func129, Tryz.ntmps129
  go_wp2_with fail
  go_loopw [6] (fun i wr => ∃ k : Nat, n ≤ k ∧ k ≤ W ∧ i = .int .i64 k ∧ Bs wr w.heap.size (.slice (some ⟨w.heap.size, 0, none⟩) W W) (part W k F) ∧ Below w.heap.size w wr) (fun i _ => W - (intOf i).toNat)
  case atStart =>
    refine ⟨n, Nat.le_refl _, hn, rfl, ?_, ?_⟩
    · have e : part W n F = List.replicate W false := by
        apply List.ext_getElem?; intro j
        by_cases hj : j < W
        · simp only [part, List.getElem?_map, List.getElem?_range hj, Option.map_some, List.getElem?_replicate, hj, if_true, HF.out j]
          by_cases h2 : j < n
          · have h3 : ¬ n ≤ j := by omega
            simp [h2, h3]
          · simp [h2]
        · simp [part, hj]
      rw [e]; exact Bs.made W (Nat.le_refl _) (by omega)
    · go_grown
  case round =>
    obtain ⟨k, hnk, hk, rfl, hB, hbl⟩ := hrel
    have HB : Hid (Bs wr w.heap.size (.slice (some ⟨w.heap.size, 0, none⟩) W W) (part W k F)) := hB
    clear hB
    by_cases hlt : k < W
    · obtain ⟨q, hq⟩ : ∃ q, q = k - n := ⟨_, rfl⟩
      obtain ⟨v, hv⟩ : ∃ v, v = l.getD q false := ⟨_, rfl⟩
      have hqW : q < W := by omega
      have hck : wr.cell? ⟨g, q, none⟩ = some (.bool v) := by rw [hv, hbl.cell (p := ⟨g, q, none⟩) hg]; exact HC.out q hqW
      have hco : wr.cell? ⟨w.heap.size, k, none⟩ = some (.bool false) := Bs.cell HB.out (part_len W k F).symm (part_cell hlt)
      have hfo : wr.frozen? ⟨w.heap.size, k, none⟩ = false := Bs.frozen HB.out (part_len W k F).symm k
      have HV : Hid (v = F k) := by unfold Hid; rw [HF.out k, hv, hq]; simp [hnk]
      have hkq : (k : Int) - (n : Int) = (q : Int) := by omega
      have hkq2 : IntKind.i64.wrap ((k : Int) - (n : Int)) = (q : Int) := wrap_nat hkq (by omega)
      clear hv hq
      go_wp2_with fail
      refine ⟨⟨k + 1, by omega, by omega, by go_num, ?_, hbl.setCell (by simp) _⟩, by simp [intOf]; omega⟩
      rw [← part_put HV.out]; exact Bs.store HB.out (part_len W k F).symm k _
    · obtain rfl : k = W := by omega
      go_wp2_with fail
      go_ret
      refine ⟨_, rfl, ?_, hbl⟩
      rw [← part_all]; exact HB.out

theorem nb_zero {l : List Bool} (h : ∀ j, l.getD j false = false) : nb l = 0 := by
  apply Nat.eq_of_testBit_eq; intro j
  rw [nb_bit, h j, Nat.zero_testBit]
theorem nb_some {l : List Bool} {j : Nat} (h : l.getD j false = true) : nb l ≠ 0 := by
  intro e
  have := nb_bit l j
  rw [e, Nat.zero_testBit, h] at this; cases this
theorem getD_out {l : List Bool} {j : Nat} (h : ¬ j < l.length) : l.getD j false = false := by simp [h]

theorem refzero_any {w : World} {g c W : Nat} {l : List Bool} (h : Rd w g W l) (hW : W ≤ 128) :
    Calls Tryz.prog 143 #[.slice (some ⟨g, 0, none⟩) W c] w fun e w' => e = .returned (.bool (decide (nb l = 0))) ∧ w' = w := by
  obtain ⟨hl, hg, hc⟩ := h
  have HC : Hid _ := hc
  have HL : Hid (l.length = W) := hl
  clear hc hl
  go_enter Tryz.func143, Tryz.ntmps143
  go_wp2
  go_loop [3] (fun i => ∃ k : Nat, k ≤ W ∧ i = .int .i64 k ∧ ∀ j, j < k → l.getD j false = false) (fun i => W - (intOf i).toNat)
  case atStart => exact ⟨0, Nat.zero_le _, rfl, fun j hj => by omega⟩
  case round =>
    obtain ⟨k, hk, rfl, hz⟩ := hrel
    have HZ : Hid _ := hz
    clear hz
    by_cases hlt : k < W
    · obtain ⟨v, hv⟩ : ∃ v, v = l.getD k false := ⟨_, rfl⟩
      have hck : w.cell? ⟨g, k, none⟩ = some (.bool v) := by rw [hv]; exact HC.out k hlt
      have HV : Hid (v = l.getD k false) := hv
      clear hv
      cases v
      · go_wp2
        go_round
        case rel =>
          refine ⟨k + 1, by omega, by go_num, fun j hj => ?_⟩
          by_cases e : j = k
          · subst e; exact HV.out.symm
          · exact HZ.out j (by omega)
        case measure => simp [intOf]; omega
      · have hnz : decide (nb l = 0) = false := by simp [nb_some HV.out.symm]
        have HD : Hid _ := hnz
        clear hnz
        go_wp2
        go_ret
        exact ⟨by rw [HD.out]; rfl, rfl⟩
    · obtain rfl : k = W := by omega
      have hnz : decide (nb l = 0) = true := by
        simp only [decide_eq_true_eq]
        refine nb_zero fun j => ?_
        by_cases hj : j < k
        · exact HZ.out j hj
        · exact getD_out (by rw [HL.out]; exact hj)
      have HD : Hid _ := hnz
      clear hnz
      go_wp2
      go_ret
      exact ⟨by rw [HD.out]; rfl, rfl⟩

theorem lt_of_bit {x y i : Nat} (hx : x.testBit i = false) (hy : y.testBit i = true) (h : ∀ j, i < j → x.testBit j = y.testBit j) : x < y := by
  have e : x / 2 ^ (i + 1) = y / 2 ^ (i + 1) := by
    apply Nat.eq_of_testBit_eq; intro j
    rw [Nat.testBit_div_two_pow, Nat.testBit_div_two_pow]; exact h _ (by omega)
  rw [Nat.pow_succ, ← Nat.div_div_eq_div_mul, ← Nat.div_div_eq_div_mul] at e
  rw [Nat.testBit_eq_decide_div_mod_eq] at hx hy
  have hx2 : ¬ x / 2 ^ i % 2 = 1 := by simpa using hx
  have hy2 : y / 2 ^ i % 2 = 1 := by simpa using hy
  have hlt : x / 2 ^ i < y / 2 ^ i := by omega
  rcases Nat.lt_or_ge x y with h1 | h1
  · exact h1
  · have := Nat.div_le_div_right (c := 2 ^ i) h1
    omega
theorem nb_below {a b : List Bool} {k : Nat} (h : ∀ j, k < j → a.getD j false = b.getD j false) (hk : a.getD k false ≠ b.getD k false) : decide (nb a < nb b) = b.getD k false := by
  cases hb : b.getD k false
  · have ha : a.getD k false = true := by cases e : a.getD k false; rw [e, hb] at hk; exact absurd rfl hk; rfl
    have : nb b < nb a := lt_of_bit (i := k) (by rw [nb_bit]; exact hb) (by rw [nb_bit]; exact ha) (fun j hj => by rw [nb_bit, nb_bit]; exact (h j hj).symm)
    simp; omega
  · have ha : a.getD k false = false := by cases e : a.getD k false; rfl; rw [e, hb] at hk; exact absurd rfl hk
    have : nb a < nb b := lt_of_bit (i := k) (by rw [nb_bit]; exact ha) (by rw [nb_bit]; exact hb) (fun j hj => by rw [nb_bit, nb_bit]; exact h j hj)
    simp; omega
theorem nb_same {a b : List Bool} (h : ∀ j, a.getD j false = b.getD j false) : nb a = nb b := by
  apply Nat.eq_of_testBit_eq; intro j; rw [nb_bit, nb_bit]; exact h j

theorem refbelow_any {w : World} {g g' c c' W : Nat} {a b : List Bool} (ha : Rd w g W a) (hb : Rd w g' W b) (hW : W ≤ 128) :
    Rt 101 #[.slice (some ⟨g, 0, none⟩) W c, .slice (some ⟨g', 0, none⟩) W c'] w (.bool (decide (nb a < nb b))) := by
  obtain ⟨hl, hg, hc⟩ := ha
  obtain ⟨hl', hg', hc'⟩ := hb
  have HC : Hid _ := hc
  have HC' : Hid _ := hc'
  have HL : Hid (a.length = W ∧ b.length = W) := ⟨hl, hl'⟩
  clear hc hl hc' hl'
  go_enter Tryz.func101, Tryz.ntmps101
  go_wp2_with fail
  go_loopw [5] (fun i wr => ∃ k : Nat, k ≤ W ∧ i = .int .i64 ((k : Int) - 1) ∧ (∀ j, k ≤ j → a.getD j false = b.getD j false) ∧ Below w.heap.size w wr) (fun i _ => (intOf i + 1).toNat)
  case atStart => exact ⟨W, Nat.le_refl _, rfl, fun j hj => by rw [getD_out (by rw [HL.out.1]; omega), getD_out (by rw [HL.out.2]; omega)], by go_grown⟩
  case round =>
    obtain ⟨k, hk, rfl, hz, hbl⟩ := hrel
    have HZ : Hid _ := hz
    clear hz
    by_cases hlt : 0 < k
    · obtain ⟨q, rfl⟩ : ∃ q, k = q + 1 := ⟨k - 1, by omega⟩
      have hq1 : ((q + 1 : Nat) : Int) - 1 = (q : Int) := by omega
      rw [hq1]
      have hqW : q < W := by omega
      have hqI : (q : Int) < (W : Int) := by omega
      clear hq1 hlt
      obtain ⟨v, hv⟩ : ∃ v, v = a.getD q false := ⟨_, rfl⟩
      obtain ⟨u, hu⟩ : ∃ u, u = b.getD q false := ⟨_, rfl⟩
      have hck : wr.cell? ⟨g, q, none⟩ = some (.bool v) := by rw [hv, hbl.cell (p := ⟨g, q, none⟩) hg]; exact HC.out q hqW
      have hck' : wr.cell? ⟨g', q, none⟩ = some (.bool u) := by rw [hu, hbl.cell (p := ⟨g', q, none⟩) hg']; exact HC'.out q hqW
      by_cases e : v = u
      · subst e
        have HS : Hid (∀ j, q ≤ j → a.getD j false = b.getD j false) := fun j hj => by
          by_cases e : j = q
          · subst e; rw [← hv, ← hu]
          · exact HZ.out j (by omega)
        clear hv hu HZ
        go_wp2_with fail
        go_region_held3 (fun x => x.cell? ⟨g, q, none⟩ = some (.bool v) ∧ x.cell? ⟨g', q, none⟩ = some (.bool v))
          ((refine ⟨?_, ?_⟩ <;> simp [go_sem, hck, hck']))
          (fail)
        go_wp2_with fail
        exact ⟨⟨q, by omega, rfl, HS.out, hbl.drew⟩, by simp [intOf]⟩
      · have HD : Hid (decide (nb a < nb b) = u) := by
          unfold Hid; rw [hu]
          exact nb_below (k := q) (fun j hj => HZ.out j (by omega)) (by rw [← hv, ← hu]; exact e)
        have hne : (v == u) = false := by simp [e]
        have hne2 : (v != u) = true := by simp [e]
        clear hv hu HZ
        go_wp2_with fail
        go_region_held3 (fun x => x.cell? ⟨g, q, none⟩ = some (.bool v) ∧ x.cell? ⟨g', q, none⟩ = some (.bool u))
          ((refine ⟨?_, ?_⟩ <;> simp [go_sem, hck, hck']))
          (fail)
        go_wp2_with fail
        go_ret
        exact ⟨by rw [HD.out]; rfl, hbl.drew⟩
    · obtain rfl : k = 0 := by omega
      have HD : Hid (decide (nb a < nb b) = false) := by
        unfold Hid; rw [nb_same fun j => HZ.out j (Nat.zero_le j)]; simp
      go_wp2_with fail
      go_ret
      exact ⟨by rw [HD.out]; rfl, hbl⟩

theorem refdown_any {w : World} {g c W n : Nat} {l : List Bool} {f : Bool} (h : Rd w g W l) (hW : W ≤ 128) (hn : n ≤ W) :
    Calls Tryz.prog 131 #[.slice (some ⟨g, 0, none⟩) W c, .int .i64 (n : Int), .bool f] w fun e w' => ∃ b, e = .returned (.slice (some ⟨b, 0, none⟩) W W) ∧ Bs w' w.heap.size (.slice (some ⟨b, 0, none⟩) W W) ((List.range W).map fun j => if j + n < W then l.getD (j + n) false else f) ∧ Below w.heap.size w w' := by
  have hmk := make_bools W hW
  obtain ⟨hl, hg, hc⟩ := h
  have HC : Hid _ := hc
  clear hc hl
  obtain ⟨F, hF⟩ : ∃ F : Nat → Bool, F = fun j => if j + n < W then l.getD (j + n) false else f := ⟨_, rfl⟩
  have HF : Hid (∀ j, F j = if j + n < W then l.getD (j + n) false else f) := fun j => by rw [hF]
  rw [← hF]
  clear hF
  go_enter Tryz.func131, Tryz.ntmps131
  go_wp2_with fail
  go_loopw [8] (fun i wr => ∃ k : Nat, k ≤ W ∧ i = .int .i64 k ∧ Bs wr w.heap.size (.slice (some ⟨w.heap.size, 0, none⟩) W W) (part W k F) ∧ Below w.heap.size w wr) (fun i _ => W - (intOf i).toNat)
  case atStart =>
    refine ⟨0, Nat.zero_le _, rfl, ?_, ?_⟩
    · rw [part_zero]; exact Bs.made W (Nat.le_refl _) (by omega)
    · go_grown
  case round =>
    obtain ⟨k, hk, rfl, hB, hbl⟩ := hrel
    have HB : Hid (Bs wr w.heap.size (.slice (some ⟨w.heap.size, 0, none⟩) W W) (part W k F)) := hB
    clear hB
    have hbs := hbl.size
    by_cases hlt : k < W
    · have hco : wr.cell? ⟨w.heap.size, k, none⟩ = some (.bool false) := Bs.cell HB.out (part_len W k F).symm (part_cell hlt)
      have hfo : wr.frozen? ⟨w.heap.size, k, none⟩ = false := Bs.frozen HB.out (part_len W k F).symm k
      have ne1 : ¬ (w.heap.size = g) := by omega
      obtain ⟨q, hq⟩ : ∃ q : Nat, q = k + n := ⟨_, rfl⟩
      have hkq : (k : Int) + (n : Int) = (q : Int) := by omega
      have hkq2 : IntKind.i64.wrap ((k : Int) + (n : Int)) = (q : Int) := wrap_nat hkq (by omega)
      have hkq3 : IntKind.i64.wrap (q : Int) = (q : Int) := wrap_nat rfl (by omega)
      by_cases hin : q < W
      · obtain ⟨v, hv⟩ : ∃ v, v = l.getD q false := ⟨_, rfl⟩
        have hck : wr.cell? ⟨g, q, none⟩ = some (.bool v) := by rw [hv, hbl.cell (p := ⟨g, q, none⟩) hg]; exact HC.out q hin
        have HV : Hid (v = F k) := by unfold Hid; rw [HF.out k, if_pos (by omega), hv, hq]
        have hc1 : (wr.setCell ⟨w.heap.size, k, none⟩ (.bool f)).cell? ⟨w.heap.size, k, none⟩ = some (.bool f) := World.cell?_setCell_same _ _ _ hco
        have hc2 : (wr.setCell ⟨w.heap.size, k, none⟩ (.bool f)).cell? ⟨g, q, none⟩ = some (.bool v) := by rw [World.cell?_setCell_other _ _ _ _ (by simp [ne1])]; exact hck
        clear hv hq
        go_wp2_with fail
        refine ⟨⟨k + 1, by omega, by go_num, ?_, (hbl.setCell (by simp) _).setCell (by simp) _⟩, by simp [intOf]; omega⟩
        have h2 := Bs.store (Bs.store HB.out (part_len W k F).symm k f) (by rw [List.length_set, part_len]) k v
        rw [List.set_set, part_put HV.out] at h2
        exact h2
      · have HV : Hid (f = F k) := by unfold Hid; rw [HF.out k, if_neg (by omega)]
        clear hq
        go_wp2_with fail
        refine ⟨⟨k + 1, by omega, by go_num, ?_, hbl.setCell (by simp) _⟩, by simp [intOf]; omega⟩
        rw [← part_put HV.out]; exact Bs.store HB.out (part_len W k F).symm k _
    · obtain rfl : k = W := by omega
      go_wp2_with fail
      go_ret
      refine ⟨_, rfl, ?_, hbl⟩
      rw [← part_all]; exact HB.out

theorem high_step {x k : Nat} : x / 2 ^ k = 2 * (x / 2 ^ (k + 1)) + (x.testBit k).toNat := by
  rw [Nat.testBit_eq_decide_div_mod_eq, Nat.pow_succ, ← Nat.div_div_eq_div_mul]
  have := Nat.div_add_mod (x / 2 ^ k) 2
  rcases Nat.mod_two_eq_zero_or_one (x / 2 ^ k) with h | h <;> simp [h] <;> omega

theorem refamount_any {w : World} {g c W : Nat} {l : List Bool} (h : Rd w g W l) (hW : W ≤ 128) :
    Calls Tryz.prog 130 #[.slice (some ⟨g, 0, none⟩) W c] w fun e w' => e = .returned (.int .i64 ((min (nb l) W : Nat) : Int)) ∧ w' = w := by
  obtain ⟨hl, hg, hc⟩ := h
  have HC : Hid _ := hc
  have hlt := nb_lt l
  rw [hl] at hlt
  have HL : Hid (nb l / 2 ^ W = 0) := Nat.div_eq_of_lt hlt
  clear hc hl hlt
  go_enter Tryz.func130, Tryz.ntmps130
  go_wp2
  go_loop [3, 4] (fun d i => ∃ k m : Nat, k ≤ W ∧ i = .int .i64 ((k : Int) - 1) ∧ d = .int .i64 (m : Int) ∧ m = min (nb l / 2 ^ k) W) (fun _ i => (intOf i + 1).toNat)
  case atStart => exact ⟨W, 0, Nat.le_refl _, rfl, rfl, by rw [HL.out]; simp⟩
  case round =>
    obtain ⟨k, m, hk, rfl, rfl, hm⟩ := hrel
    by_cases h0 : 0 < k
    · obtain ⟨q, rfl⟩ : ∃ q, k = q + 1 := ⟨k - 1, by omega⟩
      have hq1 : ((q + 1 : Nat) : Int) - 1 = (q : Int) := by omega
      rw [hq1]
      have hqW : q < W := by omega
      have hqI : (q : Int) < (W : Int) := by omega
      have hmW : m ≤ W := by omega
      clear hq1 h0
      obtain ⟨v, hv⟩ : ∃ v, v = l.getD q false := ⟨_, rfl⟩
      have hck : w.cell? ⟨g, q, none⟩ = some (.bool v) := by rw [hv]; exact HC.out q hqW
      have hs := high_step (x := nb l) (k := q)
      rw [nb_bit, ← hv] at hs
      have HM : Hid (min (nb l / 2 ^ q) W = min (2 * m + v.toNat) W) := by unfold Hid; rw [hs, hm]; omega
      clear hs hm hv
      obtain ⟨d, hd⟩ : ∃ d : Nat, d = 2 * m + v.toNat := ⟨_, rfl⟩
      cases v
      · have hd2 : 2 * (m : Int) = (d : Int) := by simp at hd; omega
        have hdb : d ≤ 2 * W + 1 := by simp at hd; omega
        rw [← hd] at HM
        clear hd
        by_cases hgt : W < d
        · have hgI : (W : Int) < (d : Int) := by omega
          go_wp2
          go_round
          case rel => exact ⟨q, W, by omega, rfl, rfl, by rw [HM.out]; omega⟩
          case measure => simp [intOf]
        · have hgI : ¬ ((W : Int) < (d : Int)) := by omega
          go_wp2
          go_round
          case rel => exact ⟨q, d, by omega, rfl, rfl, by rw [HM.out]; omega⟩
          case measure => simp [intOf]
      · have hd2 : 2 * (m : Int) + 1 = (d : Int) := by simp at hd; omega
        have hdb : d ≤ 2 * W + 1 := by simp at hd; omega
        rw [← hd] at HM
        clear hd
        by_cases hgt : W < d
        · have hgI : (W : Int) < (d : Int) := by omega
          go_wp2
          go_round
          case rel => exact ⟨q, W, by omega, rfl, rfl, by rw [HM.out]; omega⟩
          case measure => simp [intOf]
        · have hgI : ¬ ((W : Int) < (d : Int)) := by omega
          go_wp2
          go_round
          case rel => exact ⟨q, d, by omega, rfl, rfl, by rw [HM.out]; omega⟩
          case measure => simp [intOf]
    · obtain rfl : k = 0 := by omega
      have HM : Hid (m = min (nb l) W) := by unfold Hid; rw [hm]; simp
      clear hm
      go_wp2
      go_ret
      exact ⟨by rw [← HM.out]; rfl, rfl⟩

theorem bl_nb {W : Nat} {l : List Bool} (h : l.length = W) : l = bl W (nb l) := by
  apply List.ext_getElem?; intro j
  by_cases hj : j < W
  · rw [show (bl W (nb l))[j]? = some ((nb l).testBit j) by simp [bl, hj], nb_bit]
    simp [h, hj]
  · simp [bl, hj, h]
theorem bl_of {W n : Nat} {l : List Bool} (h : l.length = W) (hn : nb l = n) : l = bl W n := by rw [← hn]; exact bl_nb h
theorem bl_mod (W n : Nat) : bl W (n % 2 ^ W) = bl W n := by
  have := bl_nb (bl_len W n); rw [nb_bl] at this; exact this.symm
theorem bl_congr {W n m : Nat} (h : n % 2 ^ W = m % 2 ^ W) : bl W n = bl W m := by rw [← bl_mod, h, bl_mod]
theorem bl_ofmod {W n : Nat} {l : List Bool} (h : l.length = W) (hn : nb l = n % 2 ^ W) : l = bl W n := by rw [bl_of h hn, bl_mod]
theorem nb_blt {W n : Nat} (h : n < 2 ^ W) : nb (bl W n) = n := by rw [nb_bl, Nat.mod_eq_of_lt h]

theorem nb_up {W n x : Nat} : (List.range W).map (fun j => decide (n ≤ j) && (bl W x).getD (j - n) false) = bl W (x * 2 ^ n) := by
  apply List.ext_getElem?; intro j
  by_cases hj : j < W
  · simp only [bl, List.getElem?_map, List.getElem?_range hj, Option.map_some]
    rw [Nat.testBit_mul_two_pow]
    congr 1
    by_cases h : n ≤ j
    · have h2 : j - n < W := by omega
      simp [h, h2]
    · simp [h]
  · simp [bl, hj]
theorem nb_down {W n x : Nat} : (List.range W).map (fun j => if j + n < W then (bl W x).getD (j + n) false else false) = bl W (x % 2 ^ W / 2 ^ n) := by
  apply List.ext_getElem?; intro j
  by_cases hj : j < W
  · simp only [bl, List.getElem?_map, List.getElem?_range hj, Option.map_some]
    rw [Nat.testBit_div_two_pow, Nat.testBit_mod_two_pow]
    congr 1
    by_cases h : j + n < W
    · simp [h]
    · simp [h]
  · simp [bl, hj]
theorem mul_step {x y k : Nat} : x * (y % 2 ^ (k + 1)) = x * (y % 2 ^ k) + (y.testBit k).toNat * (x * 2 ^ k) := by
  have : y % 2 ^ (k + 1) = y % 2 ^ k + (y.testBit k).toNat * 2 ^ k := by
    rw [Nat.mod_pow_succ, Nat.testBit_eq_decide_div_mod_eq, Nat.mul_comm]
    rcases Nat.mod_two_eq_zero_or_one (y / 2 ^ k) with h | h <;> simp [h]
  rw [this, Nat.mul_add, Nat.mul_left_comm]
/-- What a call leaves: a new list of the bits of n. -/
abbrev Nw (W n : Nat) (w : World) (e : Ending) (w' : World) : Prop := ∃ r, e = .returned (.slice (some ⟨r, 0, none⟩) W W) ∧ Bs w' w.heap.size (.slice (some ⟨r, 0, none⟩) W W) (bl W n) ∧ Below w.heap.size w w'

theorem rnot {w : World} {g c W x : Nat} (h : Rd w g W (bl W x)) (hW : W ≤ 128) (hx : x < 2 ^ W) :
    Calls Tryz.prog 96 #[.slice (some ⟨g, 0, none⟩) W c] w (Nw W (2 ^ W - 1 - x) w) := by
  refine (refnot_any (c := c) h hW).mono ?_
  rintro e w' ⟨r, rfl, hB, hb⟩
  have e : (List.range W).map (fun j => !(bl W x).getD j false) = bl W (2 ^ W - 1 - x) := bl_of (by simp) (by rw [nb_not (bl_len W x), nb_blt hx])
  rw [e] at hB; exact ⟨r, rfl, hB, hb⟩
theorem radd {w : World} {g g' c c' W x y : Nat} {cy : Bool} (ha : Rd w g W (bl W x)) (hb : Rd w g' W (bl W y)) (hW : W ≤ 128) :
    Calls Tryz.prog 122 #[.slice (some ⟨g, 0, none⟩) W c, .slice (some ⟨g', 0, none⟩) W c', .bool cy] w (Nw W (x + y + cy.toNat) w) := by
  refine (refadd_any (c := c) (c' := c') ha hb hW).mono ?_
  rintro e w' ⟨r, rfl, hB, hb⟩
  have e : (List.range W).map (sumb (bl W x) (bl W y) cy) = bl W (x + y + cy.toNat) := bl_ofmod (by simp) (by rw [nb_add (bl_len W x) (bl_len W y), nb_bl, nb_bl]; simp [Nat.add_mod])
  rw [e] at hB; exact ⟨r, rfl, hB, hb⟩
theorem rsub {w : World} {g g' c c' W x y : Nat} (ha : Rd w g W (bl W x)) (hb : Rd w g' W (bl W y)) (hW : W ≤ 128) (hy : y < 2 ^ W) :
    Calls Tryz.prog 124 #[.slice (some ⟨g, 0, none⟩) W c, .slice (some ⟨g', 0, none⟩) W c'] w (Nw W (x + (2 ^ W - y)) w) := by
  refine (refsub_any (c := c) (c' := c') ha hb hW).mono ?_
  rintro e w' ⟨r, rfl, hB, hb⟩
  have e : (List.range W).map (sumb (bl W x) ((List.range W).map fun j => !(bl W y).getD j false) true) = bl W (x + (2 ^ W - y)) := bl_ofmod (by simp) (by
    rw [nb_add (bl_len W x) (by simp), nb_not (bl_len W y), nb_blt hy, nb_bl, Nat.add_assoc, Nat.mod_add_mod]
    congr 2; simp only [Bool.toNat_true]; omega)
  rw [e] at hB; exact ⟨r, rfl, hB, hb⟩
theorem rup {w : World} {g c W n x : Nat} (h : Rd w g W (bl W x)) (hW : W ≤ 128) (hn : n ≤ W) :
    Calls Tryz.prog 129 #[.slice (some ⟨g, 0, none⟩) W c, .int .i64 (n : Int)] w (Nw W (x * 2 ^ n) w) := by
  refine (refup_any (c := c) h hW hn).mono ?_
  rintro e w' ⟨r, rfl, hB, hb⟩
  refine ⟨r, rfl, ?_, hb⟩
  rw [← nb_up]; exact hB
theorem rdown {w : World} {g c W n x : Nat} (h : Rd w g W (bl W x)) (hW : W ≤ 128) (hn : n ≤ W) :
    Calls Tryz.prog 131 #[.slice (some ⟨g, 0, none⟩) W c, .int .i64 (n : Int), .bool false] w (Nw W (x % 2 ^ W / 2 ^ n) w) := by
  refine (refdown_any (c := c) h hW hn).mono ?_
  rintro e w' ⟨r, rfl, hB, hb⟩
  refine ⟨r, rfl, ?_, hb⟩
  rw [← nb_down]; exact hB
theorem rzero {w : World} {g c W x : Nat} (h : Rd w g W (bl W x)) (hW : W ≤ 128) (hx : x < 2 ^ W) :
    Rt 143 #[.slice (some ⟨g, 0, none⟩) W c] w (.bool (decide (x = 0))) := by
  refine (refzero_any (c := c) h hW).mono ?_
  rintro e w' ⟨rfl, rfl⟩
  exact ⟨by rw [nb_blt hx], Below.refl _ _⟩
theorem rbelow {w : World} {g g' c c' W x y : Nat} (ha : Rd w g W (bl W x)) (hb : Rd w g' W (bl W y)) (hW : W ≤ 128) (hx : x < 2 ^ W) (hy : y < 2 ^ W) :
    Rt 101 #[.slice (some ⟨g, 0, none⟩) W c, .slice (some ⟨g', 0, none⟩) W c'] w (.bool (decide (x < y))) := by
  refine (refbelow_any (c := c) (c' := c') ha hb hW).mono ?_
  rintro e w' ⟨rfl, h⟩
  exact ⟨by rw [nb_blt hx, nb_blt hy], h⟩
theorem ramount {w : World} {g c W x : Nat} (h : Rd w g W (bl W x)) (hW : W ≤ 128) (hx : x < 2 ^ W) :
    Rt 130 #[.slice (some ⟨g, 0, none⟩) W c] w (.int .i64 ((min x W : Nat) : Int)) := by
  refine (refamount_any (c := c) h hW).mono ?_
  rintro e w' ⟨rfl, rfl⟩
  exact ⟨by rw [nb_blt hx], Below.refl _ _⟩

theorem refmul_any {w : World} {g g' c c' W x y : Nat} (ha : Rd w g W (bl W x)) (hb : Rd w g' W (bl W y)) (hW : W ≤ 128) (hy : y < 2 ^ W) :
    Calls Tryz.prog 125 #[.slice (some ⟨g, 0, none⟩) W c, .slice (some ⟨g', 0, none⟩) W c'] w (Nw W (x * y) w) := by
  have hmk := make_bools W hW
  have HA : Hid (Rd w g W (bl W x)) := ha
  have HB : Hid (Rd w g' W (bl W y)) := hb
  have HY : Hid (y % 2 ^ W = y) := Nat.mod_eq_of_lt hy
  clear ha hb hy
  go_enter Tryz.func125, Tryz.ntmps125
  go_wp2_with fail
  go_loopw [6, 5] (fun i s wr => ∃ k r : Nat, k ≤ W ∧ i = .int .i64 k ∧ s = .slice (some ⟨r, 0, none⟩) W W ∧ Bs wr w.heap.size (.slice (some ⟨r, 0, none⟩) W W) (bl W (x * (y % 2 ^ k))) ∧ Below w.heap.size w wr) (fun i _ _ => W - (intOf i).toNat)
  case atStart =>
    refine ⟨0, w.heap.size, Nat.zero_le _, rfl, rfl, ?_, ?_⟩
    · have e : bl W (x * (y % 2 ^ 0)) = List.replicate W false := by
        apply List.ext_getElem?; intro j
        by_cases hj : j < W <;> simp [bl, hj, Nat.mod_one]
      rw [e]; exact Bs.made W (Nat.le_refl _) (by omega)
    · go_grown
  case round =>
    obtain ⟨k, r, hk, rfl, rfl, hB, hbl⟩ := hrel
    have HR : Hid (Bs wr w.heap.size (.slice (some ⟨r, 0, none⟩) W W) (bl W (x * (y % 2 ^ k)))) := hB
    clear hB
    by_cases hlt : k < W
    · obtain ⟨v, hv⟩ : ∃ v, v = y.testBit k := ⟨_, rfl⟩
      have hck : wr.cell? ⟨g', k, none⟩ = some (.bool v) := by
        rw [hv, hbl.cell (p := ⟨g', k, none⟩) HB.out.2.1, HB.out.2.2 k hlt, bl_getD]; simp [hlt]
      have hst := mul_step (x := x) (y := y) (k := k)
      rw [← hv] at hst
      have HS : Hid _ := hst
      clear hst hv
      cases v
      · go_wp2_with fail
        refine ⟨⟨k + 1, r, by omega, by go_num, rfl, ?_, hbl⟩, by simp [intOf]; omega⟩
        rw [HS.out]; simpa using HR.out
      · go_wp2_with fail
        refine (rup (n := k) (Rd.keepB HA.out HA.out.2.1 hbl) hW (by omega)).mono ?_
        rintro e w1 ⟨r1, rfl, hB1, hb1⟩
        have HU : Hid (Rd w1 r1 W (bl W (x * 2 ^ k))) := Bs.rd hB1 (bl_len W _).symm
        have HO : Hid (Rd w1 r W (bl W (x * (y % 2 ^ k)))) := Rd.keep (Bs.rd HR.out (bl_len W _).symm) hb1
        have hz := hbl.size
        have hb2 : Below w.heap.size w w1 := hbl.trans (hb1.mono hz)
        clear hB1 HR hbl hck hb1
        go_wp2_with fail
        refine (radd HO.out HU.out hW).mono ?_
        rintro e w2 ⟨r2, rfl, hB2, hb3⟩
        have HN : Hid (Bs w2 w.heap.size (.slice (some ⟨r2, 0, none⟩) W W) (bl W (x * (y % 2 ^ (k + 1))))) := by
          unfold Hid; rw [HS.out]
          have := Bs.mono hB2 hb2.size
          simpa using this
        have hb4 : Below w.heap.size w w2 := hb2.trans (hb3.mono hb2.size)
        clear hB2 HO HU hb3 hb2
        go_wp2_with fail
        exact ⟨⟨k + 1, r2, by omega, by go_num, rfl, HN.out, hb4⟩, by simp [intOf]; omega⟩
    · obtain rfl : k = W := by omega
      have HE : Hid (Bs wr w.heap.size (.slice (some ⟨r, 0, none⟩) k k) (bl k (x * y))) := by unfold Hid; rw [← HY.out]; exact HR.out
      clear HR
      go_wp2_with fail
      go_ret
      exact ⟨_, rfl, HE.out, hbl⟩

theorem bl_zero (W : Nat) : bl W 0 = List.replicate W false := by
  apply List.ext_getElem?; intro j
  by_cases hj : j < W <;> simp [bl, hj]
theorem Rd.made {w : World} (W : Nat) (hW : W ≤ 1000) : Rd (w.alloc (.cells (Array.replicate W (.bool false)) 4)) w.heap.size W (bl W 0) := by
  rw [bl_zero]; exact Bs.rd (Bs.made (base := w.heap.size) W (Nat.le_refl _) hW) (by simp)
theorem Rd.drew {w : World} {g W : Nat} {l : List Bool} (h : Rd w g W l) : Rd w.drew g W l := h
theorem Rd.alloc {w : World} {g W : Nat} {l : List Bool} (h : Rd w g W l) (o : Obj) : Rd (w.alloc o) g W l := Rd.keep h ((Below.refl _ w).alloc (Nat.le_refl _) o)

theorem refneg_any {w : World} {g c W x : Nat} (ha : Rd w g W (bl W x)) (hW : W ≤ 128) (hx : x < 2 ^ W) :
    Calls Tryz.prog 97 #[.slice (some ⟨g, 0, none⟩) W c] w (Nw W (neg W x) w) := by
  have hmk := make_bools W hW
  have HA : Hid (Rd w g W (bl W x)) := ha
  have HE : Hid (bl W (2 ^ W - 1 - x + 0 + true.toNat) = bl W (neg W x)) := by
    unfold Hid neg; rw [bl_mod]; congr 1; simp only [Bool.toNat_true]; omega
  clear ha
  go_enter Tryz.func97, Tryz.ntmps97
  go_wp2_with fail
  go_region_with ((first
    | (go_at_call 96; refine (rnot (x := x) ?_ hW hx).mono ?_; (first | exact HA.out | exact Rd.alloc HA.out _ | exact Rd.drew (Rd.alloc HA.out _)); rintro e wq ⟨r1, rfl, hB1, hb⟩; have hbw : Below w.heap.size w wq := below_step (w := w) (by go_grown) hb; have hs := hbw.size; have HN : Hid (Rd wq r1 W (bl W (2 ^ W - 1 - x))) := Bs.rd hB1 (bl_len W _).symm; (try have HZ : Hid (Rd wq w.heap.size W (bl W 0)) := Rd.keep (Rd.drew (Rd.made W (Nat.le_trans hW (by decide)))) hb); clear hB1 hb)
    | (go_at_call 122; refine (radd (x := 2 ^ W - 1 - x) (y := 0) ?_ ?_ hW).mono ?_; (first | exact HN.out | exact Rd.alloc HN.out _ | exact Rd.drew (Rd.alloc HN.out _) | exact Rd.alloc (Rd.drew HN.out) _); (first | exact HZ.out | exact Rd.made W (Nat.le_trans hW (by decide)) | exact Rd.drew (Rd.made W (Nat.le_trans hW (by decide)))); rintro e wr ⟨r2, rfl, hB2, hb⟩; have hbz : Below w.heap.size w wr := below_step (w := w) (by go_grown) hb; have hs2 := hbz.size; have HR : Hid (Bs wr w.heap.size (.slice (some ⟨r2, 0, none⟩) W W) (bl W (neg W x))) := (by unfold Hid; rw [← HE.out]; exact Bs.mono hB2 (by first | omega | (simp; omega))); clear hB2 hb)))
  all_goals
    go_wp2_with fail
    go_ret
    exact ⟨_, rfl, HR.out, by go_grown⟩

/-- What a call leaves: a list of the bits of n. -/
abbrev Rw (W n : Nat) (w : World) (e : Ending) (w' : World) : Prop := ∃ r c, e = .returned (.slice (some ⟨r, 0, none⟩) W c) ∧ Rd w' r W (bl W n) ∧ Below w.heap.size w w'
theorem Rd.bit {w : World} {g W x j : Nat} (h : Rd w g W (bl W x)) (hj : j < W) : w.cell? ⟨g, j, none⟩ = some (.bool (x.testBit j)) := by
  rw [h.2.2 j hj, bl_getD]; simp [hj]

theorem rminus {w : World} {g c W x : Nat} (h : Rd w g W (bl W x)) (h1 : 1 ≤ W) (hW : W ≤ 128) :
    Rt 98 #[.slice (some ⟨g, 0, none⟩) W c] w (.bool (x.testBit (W - 1))) := by
  have hc : w.cell? ⟨g, W - 1, none⟩ = some (.bool (x.testBit (W - 1))) := Rd.bit h (by omega)
  have h0 : (0 : Int) ≤ (W : Int) - 1 := by omega
  have h1' : (W : Int) - 1 < W := by omega
  have h2 : ((W : Int) - 1).toNat = W - 1 := by omega
  clear h
  go_enter Tryz.func98, Tryz.ntmps98
  go_wp2
  go_ret
  exact ⟨rfl, Below.refl _ _⟩

theorem rsize {w : World} {g c W x : Nat} (h : Rd w g W (bl W x)) (h1 : 1 ≤ W) (hW : W ≤ 128) (hx : x < 2 ^ W) :
    Calls Tryz.prog 127 #[.slice (some ⟨g, 0, none⟩) W c] w (Rw W (wsign W x x) w) := by
  have HA : Hid (Rd w g W (bl W x)) := h
  clear h
  cases hs : x.testBit (W - 1)
  · have HE : Hid (wsign W x x = x) := by unfold Hid wsign; rw [hs]; rfl
    have HM := rminus (c := c) HA.out h1 hW
    rw [hs] at HM
    have HMH : Hid _ := HM
    clear HM hs
    go_enter Tryz.func127, Tryz.ntmps127
    go_wp2_with fail
    refine Calls.mono HMH.out ?_
    rintro e w1 ⟨rfl, hb1⟩
    have HR : Hid (Rd w1 g W (bl W (wsign W x x))) := by unfold Hid; rw [HE.out]; exact Rd.keep HA.out hb1
    clear HMH HE HA
    go_wp2_with fail
    go_ret
    exact ⟨_, _, rfl, HR.out, hb1⟩
  · have HE : Hid (wsign W x x = neg W x) := by unfold Hid wsign; rw [hs]; rfl
    have HM := rminus (c := c) HA.out h1 hW
    rw [hs] at HM
    have HMH : Hid _ := HM
    clear HM hs
    go_enter Tryz.func127, Tryz.ntmps127
    go_wp2_with fail
    refine Calls.mono HMH.out ?_
    rintro e w1 ⟨rfl, hb1⟩
    have HR : Hid (Rd w1 g W (bl W x)) := Rd.keep HA.out hb1
    clear HMH HA
    go_wp2_with fail
    refine (refneg_any HR.out hW hx).mono ?_
    rintro e w2 ⟨r2, rfl, hB2, hb2⟩
    have HR2 : Hid (Rd w2 r2 W (bl W (wsign W x x))) := by unfold Hid; rw [HE.out]; exact Bs.rd hB2 (bl_len W _).symm
    clear HR HE hB2
    go_wp2_with fail
    go_ret
    exact ⟨_, _, rfl, HR2.out, hb1.trans (hb2.mono hb1.size)⟩

theorem bl_top {W x : Nat} (h1 : 1 ≤ W) : (bl W x).set (W - 1) (!x.testBit (W - 1)) = bl W (top W x) := by
  apply List.ext_getElem?; intro j
  rw [List.getElem?_set]
  by_cases hj : j < W
  · by_cases hk : W - 1 = j
    · subst hk
      simp [bl, hj, top, Nat.testBit_xor, Nat.testBit_two_pow_self]
    · simp [bl, hj, hk, top, Nat.testBit_xor, Nat.testBit_two_pow]
  · have : ¬ W - 1 = j := by omega
    simp [bl, hj, this]

theorem app_list {w w' : World} {base n m : Nat} {v v' : Value} {l k : List Bool} (h : Bs w base v l) (hn : n = l.length) (hm : m = k.length) (ho : w'.ownsRow base 4 1 v' (n + m) (bv l ++ bv k)) (hg : w.grownBy w' v.ownBlock) (hb : base ≤ w.heap.size) :
    Bs w' base v' (l ++ k) ∧ Below base w w' := by
  subst hn hm
  refine ⟨?_, ?_⟩
  · unfold Bs
    rw [bv_app, List.length_append]; exact ho
  · exact (Below.refl base w).grown hg hb (fun q hq => (World.ownsRow.lt h q hq).1)
theorem app_copy {w w' : World} {base W x : Nat} {v' : Value} (h1 : 1 ≤ W) (hb : base ≤ w.heap.size) (ho : w'.ownsRow base 4 1 v' (0 + W) (bv [] ++ bv (bl W x))) (hg : w.grownBy w' (Value.slice none 0 0).ownBlock) :
    ∃ r cap, v' = .slice (some ⟨r, 0, none⟩) W cap ∧ Bs w' base (.slice (some ⟨r, 0, none⟩) W cap) (bl W x) ∧ Below base w w' := by
  obtain ⟨hB, hb'⟩ := app_list (k := bl W x) (l := []) (v := .slice none 0 0) (base := base) (World.ownsRow_nil _ _ _ _) rfl (bl_len W x).symm ho hg hb
  rw [List.nil_append] at hB
  have hl := bl_len W x
  rcases hB.2 with ⟨-, h0⟩ | ⟨r, cap, cur, rfl, -⟩
  · omega
  · have hB2 := hB
    rw [hl] at hB2
    exact ⟨r, cap, by rw [hl], hB2, hb'⟩

theorem rturned {w : World} {g c W x : Nat} (h : Rd w g W (bl W x)) (h1 : 1 ≤ W) (hW : W ≤ 128) :
    Calls Tryz.prog 100 #[.slice (some ⟨g, 0, none⟩) W c] w (Rw W (top W x) w) := by
  have HG : Hid (∀ j u, (bv (bl W x))[j]? = some u → w.cell? ((⟨g, 0, none⟩ : Addr).add j) = some u) := fun j u hu => by
    rw [bv_get] at hu
    by_cases hj : j < W
    · rw [bl_get hj] at hu
      simp only [Option.map_some, Option.some.injEq] at hu
      rw [← hu, show ((⟨g, 0, none⟩ : Addr).add j) = ⟨g, j, none⟩ by (simp [Addr.add]); exact fun h => h.symm]
      exact Rd.bit h hj
    · have : (bl W x)[j]? = none := by simp [bl, hj]
      rw [this] at hu; cases hu
  clear h
  obtain ⟨i0, hi, hz0, hz1, hz2⟩ := info4
  have HI4 : Hid (Tryz.prog.info? 4 = some i0 ∧ i0.zero = some (.bool false) ∧ i0.size = 1 ∧ i0.bytes = 1) := ⟨hi, hz0, hz1, hz2⟩
  clear hi hz0 hz1 hz2
  go_enter Tryz.func100, Tryz.ntmps100
  go_wp2_with (at_builtin; refine wpList_append_own _ rfl (.const (.slice none 0 0)) (.tmp 4) 93 rfl w.heap.size 4 i0 (.bool false) 1 1 Tryz.underlying93 HI4.out.1 HI4.out.2.1 HI4.out.2.2.1 HI4.out.2.2.2 rfl (by decide) (.slice none 0 0) 0 (bv []) rfl (World.ownsRow_nil _ _ _ _) ⟨g, 0, none⟩ W c (bv (bl W x)) rfl (by simp [bv, bl]) HG.out (bv_one _) (by unfold maxLen; omega) (by omega) (by omega) ?_; intro v' w6 hown hgrow hnil; clear hnil; obtain ⟨r, cap, rfl, hB6, hb6⟩ := app_copy h1 (Nat.le_refl _) hown hgrow; clear hown hgrow HG; have hc6 : w6.cell? ⟨r, W - 1, none⟩ = some (.bool (x.testBit (W - 1))) := Bs.cell hB6 (bl_len W x).symm (bl_get (by omega)); have hf6 : w6.frozen? ⟨r, W - 1, none⟩ = false := Bs.frozen hB6 (bl_len W x).symm (W - 1); have HB6 : Hid (Bs w6 w.heap.size (.slice (some ⟨r, 0, none⟩) W cap) (bl W x)) := hB6; have h0 : (0 : Int) ≤ (W : Int) - 1 := (by omega); have h1' : (W : Int) - 1 < W := (by omega); have h2 : ((W : Int) - 1).toNat = W - 1 := (by omega); clear hB6)
  go_ret
  have h := Bs.store HB6.out (bl_len W x).symm (W - 1) (!x.testBit (W - 1))
  rw [bl_top h1] at h
  have hlt := (Bs.lt HB6.out).1
  exact ⟨_, _, rfl, Bs.rd h (bl_len W _).symm, hb6.setCell hlt _⟩
end Go.Proofs.YtnflphhckgeneaaGreat
