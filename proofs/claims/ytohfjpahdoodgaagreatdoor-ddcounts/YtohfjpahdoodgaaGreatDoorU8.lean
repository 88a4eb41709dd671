/- Contracts: the document's operators on lists of bits: taken away, moved up and down; its questions; a shift's number. -/
import Derived.Test.YtohfjpahdoodgaaGreatDoorU7
namespace Go.Proofs.YtohfjpahdoodgaaGreatDoor.Ag
open Go.RowKit
set_option linter.unusedSimpArgs false
set_option linter.unusedVariables false

theorem nb_not {W : Nat} {l : List Bool} (hl : l.length = W) : nb ((List.range W).map fun j => !l.getD j false) = 2 ^ W - 1 - nb l := by
  have hlt := nb_lt l
  rw [hl] at hlt
  apply Nat.eq_of_testBit_eq; intro j
  rw [nb_bit, show 2 ^ W - 1 - nb l = 2 ^ W - (nb l + 1) by omega, Nat.testBit_two_pow_sub_succ hlt, nb_bit]
  by_cases hj : j < W <;> simp [hj]

set_option maxHeartbeats 800000 in
theorem refsub_any {w : World} {g g' c c' W : Nat} {a b : List Bool} (ha : Rd w g W a) (hb : Rd w g' W b) (hW : W ≤ 128) :
    Calls Tryz.prog 75 #[.slice (some ⟨g, 0, none⟩) W c, .slice (some ⟨g', 0, none⟩) W c'] w fun e w' => ∃ r, e = .returned (.slice (some ⟨r, 0, none⟩) W W) ∧ Bs w' w.heap.size (.slice (some ⟨r, 0, none⟩) W W) ((List.range W).map (sumb a ((List.range W).map fun j => !b.getD j false) true)) ∧ Below w.heap.size w w' := by
  have HA : Hid _ := ha
  have HB : Hid _ := hb
  clear ha hb
  go_enter Tryz.func75, Tryz.ntmps75
  go_wp2_with fail
  refine (refnot_any HB.out hW).mono ?_
  rintro e w1 ⟨r1, rfl, hB1, hb1⟩
  have HN : Hid (Rd w1 r1 W ((List.range W).map fun j => !b.getD j false)) := Bs.rd hB1 (by simp)
  have HA1 : Hid (Rd w1 g W a) := Rd.keep HA.out hb1
  clear hB1 HA HB
  go_wp2_with fail
  refine (refadd_any HA1.out HN.out hW).mono ?_
  rintro e w2 ⟨r2, rfl, hB2, hb2⟩
  have HB2 : Hid _ := hB2
  clear hB2
  go_wp2_with fail
  go_ret
  exact ⟨_, rfl, Bs.mono HB2.out hb1.size, hb1.trans (hb2.mono hb1.size)⟩

set_option maxHeartbeats 800000 in
theorem refup_any {w : World} {g c W n : Nat} {l : List Bool} (h : Rd w g W l) (hW : W ≤ 128) (hn : n ≤ W) :
    Calls Tryz.prog 82 #[.slice (some ⟨g, 0, none⟩) W c, .int .i64 (n : Int)] w fun e w' => ∃ b, e = .returned (.slice (some ⟨b, 0, none⟩) W W) ∧ Bs w' w.heap.size (.slice (some ⟨b, 0, none⟩) W W) ((List.range W).map fun j => decide (n ≤ j) && l.getD (j - n) false) ∧ Below w.heap.size w w' := by
  have hmk := make_bools W hW
  obtain ⟨hl, hg, hc⟩ := h
  have HC : Hid _ := hc
  clear hc hl
  obtain ⟨F, hF⟩ : ∃ F : Nat → Bool, F = fun j => decide (n ≤ j) && l.getD (j - n) false := ⟨_, rfl⟩
  have HF : Hid (∀ j, F j = (decide (n ≤ j) && l.getD (j - n) false)) := fun j => by rw [hF]
  rw [← hF]
  clear hF
  go_enter Tryz.func82, Tryz.ntmps82
  go_wp2_with fail
  go_loopw [6] (fun i wr => ∃ k : Nat, n ≤ k ∧ k ≤ W ∧ i = .int .i64 k ∧ Bs wr w.heap.size (.slice (some ⟨w.heap.size, 0, none⟩) W W) (part W k F) ∧ Below w.heap.size w wr) (fun i _ => W - (intOf i).toNat)
  case atStart =>
    refine ⟨n, Nat.le_refl _, hn, rfl, ?_, ?_⟩
    · have e : part W n F = List.replicate W false := by
        apply List.ext_getElem?; intro j
        by_cases hj : j < W
        · simp only [part, List.getElem?_map, List.getElem?_range hj, Option.map_some, List.getElem?_replicate, hj, if_true, HF.out j]
          by_cases h2 : j < n
          · have h3 : ¬ n ≤ j := by omega
            simp [h2, h3]
          · simp [h2]
        · simp [part, hj]
      rw [e]; exact Bs.made W (Nat.le_refl _) (by omega)
    · go_grown
  case round =>
    obtain ⟨k, hnk, hk, rfl, hB, hbl⟩ := hrel
    have HB : Hid (Bs wr w.heap.size (.slice (some ⟨w.heap.size, 0, none⟩) W W) (part W k F)) := hB
    clear hB
    by_cases hlt : k < W
    · obtain ⟨q, hq⟩ : ∃ q, q = k - n := ⟨_, rfl⟩
      obtain ⟨v, hv⟩ : ∃ v, v = l.getD q false := ⟨_, rfl⟩
      have hqW : q < W := by omega
      have hck : wr.cell? ⟨g, q, none⟩ = some (.bool v) := by rw [hv, hbl.cell (p := ⟨g, q, none⟩) hg]; exact HC.out q hqW
      have hco : wr.cell? ⟨w.heap.size, k, none⟩ = some (.bool false) := Bs.cell HB.out (part_len W k F).symm (part_cell hlt)
      have hfo : wr.frozen? ⟨w.heap.size, k, none⟩ = false := Bs.frozen HB.out (part_len W k F).symm k
      have HV : Hid (v = F k) := by unfold Hid; rw [HF.out k, hv, hq]; simp [hnk]
      have hkq : (k : Int) - (n : Int) = (q : Int) := by omega
      have hkq2 : IntKind.i64.wrap ((k : Int) - (n : Int)) = (q : Int) := wrap_nat hkq (by omega)
      clear hv hq
      go_wp2_with fail
      refine ⟨⟨k + 1, by omega, by omega, by go_num, ?_, hbl.setCell (by simp) _⟩, by simp [intOf]; omega⟩
      rw [← part_put HV.out]; exact Bs.store HB.out (part_len W k F).symm k _
    · obtain rfl : k = W := by omega
      go_wp2_with fail
      go_ret
      refine ⟨_, rfl, ?_, hbl⟩
      rw [← part_all]; exact HB.out

theorem nb_zero {l : List Bool} (h : ∀ j, l.getD j false = false) : nb l = 0 := by
  apply Nat.eq_of_testBit_eq; intro j
  rw [nb_bit, h j, Nat.zero_testBit]
theorem nb_some {l : List Bool} {j : Nat} (h : l.getD j false = true) : nb l ≠ 0 := by
  intro e
  have := nb_bit l j
  rw [e, Nat.zero_testBit, h] at this; cases this
theorem getD_out {l : List Bool} {j : Nat} (h : ¬ j < l.length) : l.getD j false = false := by simp [h]

set_option maxHeartbeats 800000 in
theorem refzero_any {w : World} {g c W : Nat} {l : List Bool} (h : Rd w g W l) (hW : W ≤ 128) :
    Calls Tryz.prog 98 #[.slice (some ⟨g, 0, none⟩) W c] w fun e w' => e = .returned (.bool (decide (nb l = 0))) ∧ w' = w := by
  obtain ⟨hl, hg, hc⟩ := h
  have HC : Hid _ := hc
  have HL : Hid (l.length = W) := hl
  clear hc hl
  go_enter Tryz.func98, Tryz.ntmps98
  go_wp2
  go_loop [3] (fun i => ∃ k : Nat, k ≤ W ∧ i = .int .i64 k ∧ ∀ j, j < k → l.getD j false = false) (fun i => W - (intOf i).toNat)
  case atStart => exact ⟨0, Nat.zero_le _, rfl, fun j hj => by omega⟩
  case round =>
    obtain ⟨k, hk, rfl, hz⟩ := hrel
    have HZ : Hid _ := hz
    clear hz
    by_cases hlt : k < W
    · obtain ⟨v, hv⟩ : ∃ v, v = l.getD k false := ⟨_, rfl⟩
      have hck : w.cell? ⟨g, k, none⟩ = some (.bool v) := by rw [hv]; exact HC.out k hlt
      have HV : Hid (v = l.getD k false) := hv
      clear hv
      cases v
      · go_wp2
        go_round
        case rel =>
          refine ⟨k + 1, by omega, by go_num, fun j hj => ?_⟩
          by_cases e : j = k
          · subst e; exact HV.out.symm
          · exact HZ.out j (by omega)
        case measure => simp [intOf]; omega
      · have hnz : decide (nb l = 0) = false := by simp [nb_some HV.out.symm]
        have HD : Hid _ := hnz
        clear hnz
        go_wp2
        go_ret
        exact ⟨by rw [HD.out]; rfl, rfl⟩
    · obtain rfl : k = W := by omega
      have hnz : decide (nb l = 0) = true := by
        simp only [decide_eq_true_eq]
        refine nb_zero fun j => ?_
        by_cases hj : j < k
        · exact HZ.out j hj
        · exact getD_out (by rw [HL.out]; exact hj)
      have HD : Hid _ := hnz
      clear hnz
      go_wp2
      go_ret
      exact ⟨by rw [HD.out]; rfl, rfl⟩

theorem lt_of_bit {x y i : Nat} (hx : x.testBit i = false) (hy : y.testBit i = true) (h : ∀ j, i < j → x.testBit j = y.testBit j) : x < y := by
  have e : x / 2 ^ (i + 1) = y / 2 ^ (i + 1) := by
    apply Nat.eq_of_testBit_eq; intro j
    rw [Nat.testBit_div_two_pow, Nat.testBit_div_two_pow]; exact h _ (by omega)
  rw [Nat.pow_succ, ← Nat.div_div_eq_div_mul, ← Nat.div_div_eq_div_mul] at e
  rw [Nat.testBit_eq_decide_div_mod_eq] at hx hy
  have hx2 : ¬ x / 2 ^ i % 2 = 1 := by simpa using hx
  have hy2 : y / 2 ^ i % 2 = 1 := by simpa using hy
  have hlt : x / 2 ^ i < y / 2 ^ i := by omega
  rcases Nat.lt_or_ge x y with h1 | h1
  · exact h1
  · have := Nat.div_le_div_right (c := 2 ^ i) h1
    omega
theorem nb_below {a b : List Bool} {k : Nat} (h : ∀ j, k < j → a.getD j false = b.getD j false) (hk : a.getD k false ≠ b.getD k false) : decide (nb a < nb b) = b.getD k false := by
  cases hb : b.getD k false
  · have ha : a.getD k false = true := by cases e : a.getD k false; rw [e, hb] at hk; exact absurd rfl hk; rfl
    have : nb b < nb a := lt_of_bit (i := k) (by rw [nb_bit]; exact hb) (by rw [nb_bit]; exact ha) (fun j hj => by rw [nb_bit, nb_bit]; exact (h j hj).symm)
    simp; omega
  · have ha : a.getD k false = false := by cases e : a.getD k false; rfl; rw [e, hb] at hk; exact absurd rfl hk
    have : nb a < nb b := lt_of_bit (i := k) (by rw [nb_bit]; exact ha) (by rw [nb_bit]; exact hb) (fun j hj => by rw [nb_bit, nb_bit]; exact h j hj)
    simp; omega
theorem nb_same {a b : List Bool} (h : ∀ j, a.getD j false = b.getD j false) : nb a = nb b := by
  apply Nat.eq_of_testBit_eq; intro j; rw [nb_bit, nb_bit]; exact h j

set_option maxHeartbeats 800000 in
theorem refbelow_any {w : World} {g g' c c' W : Nat} {a b : List Bool} (ha : Rd w g W a) (hb : Rd w g' W b) (hW : W ≤ 128) :
    Calls Tryz.prog 53 #[.slice (some ⟨g, 0, none⟩) W c, .slice (some ⟨g', 0, none⟩) W c'] w fun e w' => e = .returned (.bool (decide (nb a < nb b))) ∧ Below w.heap.size w w' := by
  obtain ⟨hl, hg, hc⟩ := ha
  obtain ⟨hl', hg', hc'⟩ := hb
  have HC : Hid _ := hc
  have HC' : Hid _ := hc'
  have HL : Hid (a.length = W ∧ b.length = W) := ⟨hl, hl'⟩
  clear hc hl hc' hl'
  go_enter Tryz.func53, Tryz.ntmps53
  go_wp2_with fail
  go_loopw [5] (fun i wr => ∃ k : Nat, k ≤ W ∧ i = .int .i64 ((k : Int) - 1) ∧ (∀ j, k ≤ j → a.getD j false = b.getD j false) ∧ Below w.heap.size w wr) (fun i _ => (intOf i + 1).toNat)
  case atStart => exact ⟨W, Nat.le_refl _, rfl, fun j hj => by rw [getD_out (by rw [HL.out.1]; omega), getD_out (by rw [HL.out.2]; omega)], by go_grown⟩
  case round =>
    obtain ⟨k, hk, rfl, hz, hbl⟩ := hrel
    have HZ : Hid _ := hz
    clear hz
    by_cases hlt : 0 < k
    · obtain ⟨q, rfl⟩ : ∃ q, k = q + 1 := ⟨k - 1, by omega⟩
      have hq1 : ((q + 1 : Nat) : Int) - 1 = (q : Int) := by omega
      rw [hq1]
      have hqW : q < W := by omega
      have hqI : (q : Int) < (W : Int) := by omega
      clear hq1 hlt
      obtain ⟨v, hv⟩ : ∃ v, v = a.getD q false := ⟨_, rfl⟩
      obtain ⟨u, hu⟩ : ∃ u, u = b.getD q false := ⟨_, rfl⟩
      have hck : wr.cell? ⟨g, q, none⟩ = some (.bool v) := by rw [hv, hbl.cell (p := ⟨g, q, none⟩) hg]; exact HC.out q hqW
      have hck' : wr.cell? ⟨g', q, none⟩ = some (.bool u) := by rw [hu, hbl.cell (p := ⟨g', q, none⟩) hg']; exact HC'.out q hqW
      by_cases e : v = u
      · subst e
        have HS : Hid (∀ j, q ≤ j → a.getD j false = b.getD j false) := fun j hj => by
          by_cases e : j = q
          · subst e; rw [← hv, ← hu]
          · exact HZ.out j (by omega)
        clear hv hu HZ
        go_wp2_with fail
        go_region_held3 (fun x => x.cell? ⟨g, q, none⟩ = some (.bool v) ∧ x.cell? ⟨g', q, none⟩ = some (.bool v))
          ((refine ⟨?_, ?_⟩ <;> simp [go_sem, hck, hck']))
          (fail)
        go_wp2_with fail
        exact ⟨⟨q, by omega, rfl, HS.out, hbl.drew⟩, by simp [intOf]⟩
      · have HD : Hid (decide (nb a < nb b) = u) := by
          unfold Hid; rw [hu]
          exact nb_below (k := q) (fun j hj => HZ.out j (by omega)) (by rw [← hv, ← hu]; exact e)
        have hne : (v == u) = false := by simp [e]
        have hne2 : (v != u) = true := by simp [e]
        clear hv hu HZ
        go_wp2_with fail
        go_region_held3 (fun x => x.cell? ⟨g, q, none⟩ = some (.bool v) ∧ x.cell? ⟨g', q, none⟩ = some (.bool u))
          ((refine ⟨?_, ?_⟩ <;> simp [go_sem, hck, hck']))
          (fail)
        go_wp2_with fail
        go_ret
        exact ⟨by rw [HD.out]; rfl, hbl.drew⟩
    · obtain rfl : k = 0 := by omega
      have HD : Hid (decide (nb a < nb b) = false) := by
        unfold Hid; rw [nb_same fun j => HZ.out j (Nat.zero_le j)]; simp
      go_wp2_with fail
      go_ret
      exact ⟨by rw [HD.out]; rfl, hbl⟩

set_option maxHeartbeats 1600000 in
theorem refdown_any {w : World} {g c W n : Nat} {l : List Bool} {f : Bool} (h : Rd w g W l) (hW : W ≤ 128) (hn : n ≤ W) :
    Calls Tryz.prog 84 #[.slice (some ⟨g, 0, none⟩) W c, .int .i64 (n : Int), .bool f] w fun e w' => ∃ b, e = .returned (.slice (some ⟨b, 0, none⟩) W W) ∧ Bs w' w.heap.size (.slice (some ⟨b, 0, none⟩) W W) ((List.range W).map fun j => if j + n < W then l.getD (j + n) false else f) ∧ Below w.heap.size w w' := by
  have hmk := make_bools W hW
  obtain ⟨hl, hg, hc⟩ := h
  have HC : Hid _ := hc
  clear hc hl
  obtain ⟨F, hF⟩ : ∃ F : Nat → Bool, F = fun j => if j + n < W then l.getD (j + n) false else f := ⟨_, rfl⟩
  have HF : Hid (∀ j, F j = if j + n < W then l.getD (j + n) false else f) := fun j => by rw [hF]
  rw [← hF]
  clear hF
  go_enter Tryz.func84, Tryz.ntmps84
  go_wp2_with fail
  go_loopw [8] (fun i wr => ∃ k : Nat, k ≤ W ∧ i = .int .i64 k ∧ Bs wr w.heap.size (.slice (some ⟨w.heap.size, 0, none⟩) W W) (part W k F) ∧ Below w.heap.size w wr) (fun i _ => W - (intOf i).toNat)
  case atStart =>
    refine ⟨0, Nat.zero_le _, rfl, ?_, ?_⟩
    · rw [part_zero]; exact Bs.made W (Nat.le_refl _) (by omega)
    · go_grown
  case round =>
    obtain ⟨k, hk, rfl, hB, hbl⟩ := hrel
    have HB : Hid (Bs wr w.heap.size (.slice (some ⟨w.heap.size, 0, none⟩) W W) (part W k F)) := hB
    clear hB
    have hbs := hbl.size
    by_cases hlt : k < W
    · have hco : wr.cell? ⟨w.heap.size, k, none⟩ = some (.bool false) := Bs.cell HB.out (part_len W k F).symm (part_cell hlt)
      have hfo : wr.frozen? ⟨w.heap.size, k, none⟩ = false := Bs.frozen HB.out (part_len W k F).symm k
      have ne1 : ¬ (w.heap.size = g) := by omega
      obtain ⟨q, hq⟩ : ∃ q : Nat, q = k + n := ⟨_, rfl⟩
      have hkq : (k : Int) + (n : Int) = (q : Int) := by omega
      have hkq2 : IntKind.i64.wrap ((k : Int) + (n : Int)) = (q : Int) := wrap_nat hkq (by omega)
      have hkq3 : IntKind.i64.wrap (q : Int) = (q : Int) := wrap_nat rfl (by omega)
      by_cases hin : q < W
      · obtain ⟨v, hv⟩ : ∃ v, v = l.getD q false := ⟨_, rfl⟩
        have hck : wr.cell? ⟨g, q, none⟩ = some (.bool v) := by rw [hv, hbl.cell (p := ⟨g, q, none⟩) hg]; exact HC.out q hin
        have HV : Hid (v = F k) := by unfold Hid; rw [HF.out k, if_pos (by omega), hv, hq]
        have hc1 : (wr.setCell ⟨w.heap.size, k, none⟩ (.bool f)).cell? ⟨w.heap.size, k, none⟩ = some (.bool f) := World.cell?_setCell_same _ _ _ hco
        have hc2 : (wr.setCell ⟨w.heap.size, k, none⟩ (.bool f)).cell? ⟨g, q, none⟩ = some (.bool v) := by rw [World.cell?_setCell_other _ _ _ _ (by simp [ne1])]; exact hck
        clear hv hq
        go_wp2_with fail
        refine ⟨⟨k + 1, by omega, by go_num, ?_, (hbl.setCell (by simp) _).setCell (by simp) _⟩, by simp [intOf]; omega⟩
        have h2 := Bs.store (Bs.store HB.out (part_len W k F).symm k f) (by rw [List.length_set, part_len]) k v
        rw [List.set_set, part_put HV.out] at h2
        exact h2
      · have HV : Hid (f = F k) := by unfold Hid; rw [HF.out k, if_neg (by omega)]
        clear hq
        go_wp2_with fail
        refine ⟨⟨k + 1, by omega, by go_num, ?_, hbl.setCell (by simp) _⟩, by simp [intOf]; omega⟩
        rw [← part_put HV.out]; exact Bs.store HB.out (part_len W k F).symm k _
    · obtain rfl : k = W := by omega
      go_wp2_with fail
      go_ret
      refine ⟨_, rfl, ?_, hbl⟩
      rw [← part_all]; exact HB.out

theorem high_step {x k : Nat} : x / 2 ^ k = 2 * (x / 2 ^ (k + 1)) + (x.testBit k).toNat := by
  rw [Nat.testBit_eq_decide_div_mod_eq, Nat.pow_succ, ← Nat.div_div_eq_div_mul]
  have := Nat.div_add_mod (x / 2 ^ k) 2
  rcases Nat.mod_two_eq_zero_or_one (x / 2 ^ k) with h | h <;> simp [h] <;> omega

set_option maxHeartbeats 1600000 in
theorem refamount_any {w : World} {g c W : Nat} {l : List Bool} (h : Rd w g W l) (hW : W ≤ 128) :
    Calls Tryz.prog 83 #[.slice (some ⟨g, 0, none⟩) W c] w fun e w' => e = .returned (.int .i64 ((min (nb l) W : Nat) : Int)) ∧ w' = w := by
  obtain ⟨hl, hg, hc⟩ := h
  have HC : Hid _ := hc
  have hlt := nb_lt l
  rw [hl] at hlt
  have HL : Hid (nb l / 2 ^ W = 0) := Nat.div_eq_of_lt hlt
  clear hc hl hlt
  go_enter Tryz.func83, Tryz.ntmps83
  go_wp2
  go_loop [3, 4] (fun d i => ∃ k m : Nat, k ≤ W ∧ i = .int .i64 ((k : Int) - 1) ∧ d = .int .i64 (m : Int) ∧ m = min (nb l / 2 ^ k) W) (fun _ i => (intOf i + 1).toNat)
  case atStart => exact ⟨W, 0, Nat.le_refl _, rfl, rfl, by rw [HL.out]; simp⟩
  case round =>
    obtain ⟨k, m, hk, rfl, rfl, hm⟩ := hrel
    by_cases h0 : 0 < k
    · obtain ⟨q, rfl⟩ : ∃ q, k = q + 1 := ⟨k - 1, by omega⟩
      have hq1 : ((q + 1 : Nat) : Int) - 1 = (q : Int) := by omega
      rw [hq1]
      have hqW : q < W := by omega
      have hqI : (q : Int) < (W : Int) := by omega
      have hmW : m ≤ W := by omega
      clear hq1 h0
      obtain ⟨v, hv⟩ : ∃ v, v = l.getD q false := ⟨_, rfl⟩
      have hck : w.cell? ⟨g, q, none⟩ = some (.bool v) := by rw [hv]; exact HC.out q hqW
      have hs := high_step (x := nb l) (k := q)
      rw [nb_bit, ← hv] at hs
      have HM : Hid (min (nb l / 2 ^ q) W = min (2 * m + v.toNat) W) := by unfold Hid; rw [hs, hm]; omega
      clear hs hm hv
      obtain ⟨d, hd⟩ : ∃ d : Nat, d = 2 * m + v.toNat := ⟨_, rfl⟩
      cases v
      · have hd2 : 2 * (m : Int) = (d : Int) := by simp at hd; omega
        have hdb : d ≤ 2 * W + 1 := by simp at hd; omega
        rw [← hd] at HM
        clear hd
        by_cases hgt : W < d
        · have hgI : (W : Int) < (d : Int) := by omega
          go_wp2
          go_round
          case rel => exact ⟨q, W, by omega, rfl, rfl, by rw [HM.out]; omega⟩
          case measure => simp [intOf]
        · have hgI : ¬ ((W : Int) < (d : Int)) := by omega
          go_wp2
          go_round
          case rel => exact ⟨q, d, by omega, rfl, rfl, by rw [HM.out]; omega⟩
          case measure => simp [intOf]
      · have hd2 : 2 * (m : Int) + 1 = (d : Int) := by simp at hd; omega
        have hdb : d ≤ 2 * W + 1 := by simp at hd; omega
        rw [← hd] at HM
        clear hd
        by_cases hgt : W < d
        · have hgI : (W : Int) < (d : Int) := by omega
          go_wp2
          go_round
          case rel => exact ⟨q, W, by omega, rfl, rfl, by rw [HM.out]; omega⟩
          case measure => simp [intOf]
        · have hgI : ¬ ((W : Int) < (d : Int)) := by omega
          go_wp2
          go_round
          case rel => exact ⟨q, d, by omega, rfl, rfl, by rw [HM.out]; omega⟩
          case measure => simp [intOf]
    · obtain rfl : k = 0 := by omega
      have HM : Hid (m = min (nb l) W) := by unfold Hid; rw [hm]; simp
      clear hm
      go_wp2
      go_ret
      exact ⟨by rw [← HM.out]; rfl, rfl⟩
end Go.Proofs.YtohfjpahdoodgaaGreatDoor.Ag
