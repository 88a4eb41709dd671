/- Contracts: the document's rest with the divisor's sign; its operators bit by bit. -/
import Derived.Test.YtohfjpahdoodgaaGreatDoorU15
import Derived.Test.YtohfjpahdoodgaaGreatDoorMg46
namespace Go.Proofs.YtohfjpahdoodgaaGreatDoor.Ag
open Go.RowKit
set_option linter.unusedSimpArgs false
set_option linter.unusedVariables false

theorem rminusw {w : World} {g c W x : Nat} (h : Rd w g W (bl W x)) (h1 : 1 ≤ W) (hW : W ≤ 128) :
    Calls Tryz.prog 79 #[.slice (some ⟨g, 0, none⟩) W c] w fun e w' => e = .returned (.bool (x.testBit (W - 1))) ∧ w' = w := by
  have hc : w.cell? ⟨g, W - 1, none⟩ = some (.bool (x.testBit (W - 1))) := Rd.bit h (by omega)
  have h0 : (0 : Int) ≤ (W : Int) - 1 := by omega
  have h1' : (W : Int) - 1 < W := by omega
  have h2 : ((W : Int) - 1).toNat = W - 1 := by omega
  clear h
  go_enter Tryz.func79, Tryz.ntmps79
  go_wp2
  go_ret
  exact ⟨rfl, rfl⟩

theorem urem_lt2 {n m W : Nat} (hn : n < 2 ^ W) : urem n m < 2 ^ W := by
  unfold urem; split
  · exact hn
  · exact Nat.lt_of_le_of_lt (Nat.mod_le _ _) hn

set_option maxRecDepth 20000 in
set_option maxHeartbeats 3200000 in
theorem rsmod {w : World} {g g' c c' W x y : Nat} (ha : Rd w g W (bl W x)) (hb : Rd w g' W (bl W y)) (h1 : 1 ≤ W) (hW : W ≤ 128) (hx : x < 2 ^ W) (hy : y < 2 ^ W) :
    Calls Tryz.prog 81 #[.slice (some ⟨g, 0, none⟩) W c, .slice (some ⟨g', 0, none⟩) W c'] w (Rw W (smod W x y) w) := by
  obtain ⟨u, hu⟩ : ∃ u, u = urem (wsign W x x) (wsign W y y) := ⟨_, rfl⟩
  have hul : u < 2 ^ W := by rw [hu]; exact urem_lt2 (wsign_lt hx)
  obtain ⟨sa, hsa⟩ : ∃ sa, sa = x.testBit (W - 1) := ⟨_, rfl⟩
  obtain ⟨sb, hsb⟩ : ∃ sb, sb = y.testBit (W - 1) := ⟨_, rfl⟩
  have HS : Hid (smod W x y = if u ≠ 0 ∧ (sa != sb) = true then ((if sa then neg W u else u) + y) % 2 ^ W else (if sa then neg W u else u)) := by
    unfold Hid smod wsign; rw [← hsa, ← hsb]; unfold wsign at hu; rw [← hsa, ← hsb] at hu; rw [← hu]
  have HMA : Hid (∀ wx, Rd wx g W (bl W x) → Calls Tryz.prog 79 #[.slice (some ⟨g, 0, none⟩) W c] wx fun e w' => e = .returned (.bool sa) ∧ w' = wx) := fun wx h => by rw [hsa]; exact rminusw h h1 hW
  have HMB : Hid (∀ wx, Rd wx g' W (bl W y) → Calls Tryz.prog 79 #[.slice (some ⟨g', 0, none⟩) W c'] wx fun e w' => e = .returned (.bool sb) ∧ w' = wx) := fun wx h => by rw [hsb]; exact rminusw h h1 hW
  have HA : Hid (Rd w g W (bl W x)) := ha
  have HB : Hid (Rd w g' W (bl W y)) := hb
  clear ha hb hsa hsb
  go_enter Tryz.func81, Tryz.ntmps81
  go_wp2_with fail
  refine (rsize HA.out h1 hW hx).mono ?_
  rintro e w1 ⟨r1, c1, rfl, hR1, hb1⟩
  have HR1 : Hid (Rd w1 r1 W (bl W (wsign W x x))) := hR1
  have HA1 : Hid (Rd w1 g W (bl W x)) := Rd.keep HA.out hb1
  have HB1 : Hid (Rd w1 g' W (bl W y)) := Rd.keep HB.out hb1
  clear hR1 HA HB
  go_wp2_with fail
  refine (rsize HB1.out h1 hW hy).mono ?_
  rintro e w2 ⟨r2, c2, rfl, hR2, hb2⟩
  have HR2 : Hid (Rd w2 r2 W (bl W (wsign W y y))) := hR2
  have HR12 : Hid (Rd w2 r1 W (bl W (wsign W x x))) := Rd.keep HR1.out hb2
  have HA2 : Hid (Rd w2 g W (bl W x)) := Rd.keep HA1.out hb2
  have HB2 : Hid (Rd w2 g' W (bl W y)) := Rd.keep HB1.out hb2
  have hbl2 : Below w.heap.size w w2 := hb1.trans (hb2.mono hb1.size)
  clear hR2 HA1 HB1 HR1 hb1 hb2
  go_wp2_with fail
  refine (rdiv HR12.out HR2.out h1 hW (wsign_lt hx) (wsign_lt hy)).mono ?_
  rintro e w3 ⟨q3, r3, cq, cr, rfl, -, hR3, hb3⟩
  have HR3 : Hid (Rd w3 r3 W (bl W u)) := by unfold Hid; rw [hu]; exact hR3
  have HA3 : Hid (Rd w3 g W (bl W x)) := Rd.keep HA2.out hb3
  have HB3 : Hid (Rd w3 g' W (bl W y)) := Rd.keep HB2.out hb3
  have hbl3 : Below w.heap.size w w3 := hbl2.trans (hb3.mono hbl2.size)
  clear hR3 HA2 HB2 HR12 HR2 hbl2 hb3 hu
  have HZ := rzero (c := cr) HR3.out hW hul
  by_cases h0 : u = 0
  · rw [show decide (u = 0) = true by simp [h0]] at HZ
    have HZH : Hid _ := HZ
    have HE : Hid (smod W x y = u) := by
      unfold Hid; rw [HS.out, if_neg (by simp [h0])]
      cases sa
      · rfl
      · rw [if_pos rfl, h0]; simp [neg]
    clear HZ HS
    go_wp2_with fail
    refine Calls.mono HZH.out ?_
    rintro e w4 ⟨rfl, hb4⟩
    have HR4 : Hid (Rd w4 r3 W (bl W u)) := Rd.keep HR3.out hb4
    clear HZH HR3 HA3 HB3
    go_wp2_with fail
    go_ret
    exact ⟨_, _, rfl, by rw [HE.out]; exact HR4.out, hbl3.trans (hb4.mono hbl3.size)⟩
  · rw [show decide (u = 0) = false by simp [h0]] at HZ
    have HZH : Hid _ := HZ
    clear HZ
    go_wp2_with fail
    refine Calls.mono HZH.out ?_
    rintro e w4 ⟨rfl, hb4⟩
    have HR4 : Hid (Rd w4 r3 W (bl W u)) := Rd.keep HR3.out hb4
    have HA4 : Hid (Rd w4 g W (bl W x)) := Rd.keep HA3.out hb4
    have HB4 : Hid (Rd w4 g' W (bl W y)) := Rd.keep HB3.out hb4
    have hbl4 : Below w.heap.size w w4 := hbl3.trans (hb4.mono hbl3.size)
    clear HZH HR3 HA3 HB3 hbl3 hb4
    cases sa <;> cases sb
    · have HE : Hid (smod W x y = u) := by unfold Hid; rw [HS.out]; simp
      clear HS
      go_wp2_with ((first | (go_at_call 79; refine (HMA.out _ HA4.out).mono ?_; rintro e wz ⟨rfl, rfl⟩) | (go_at_call 79; refine (HMB.out _ HB4.out).mono ?_; rintro e wz ⟨rfl, rfl⟩)))
      go_ret
      exact ⟨_, _, rfl, by rw [HE.out]; exact HR4.out, hbl4⟩
    · have HE : Hid (bl W (u + y + false.toNat) = bl W (smod W x y)) := by unfold Hid; rw [HS.out]; simp [h0, bl_mod]
      clear HS
      go_wp2_with ((first | (go_at_call 79; refine (HMA.out _ HA4.out).mono ?_; rintro e wz ⟨rfl, rfl⟩) | (go_at_call 79; refine (HMB.out _ HB4.out).mono ?_; rintro e wz ⟨rfl, rfl⟩)))
      refine (radd HR4.out HB4.out hW).mono ?_
      rintro e w5 ⟨r5, rfl, hB5, hb5⟩
      have HR5 : Hid (Rd w5 r5 W (bl W (smod W x y))) := by unfold Hid; rw [← HE.out]; exact Bs.rd hB5 (bl_len W _).symm
      clear hB5 HE
      go_wp2_with fail
      go_ret
      exact ⟨_, _, rfl, HR5.out, hbl4.trans (hb5.mono hbl4.size)⟩
    · have HE : Hid (bl W (y + (2 ^ W - u)) = bl W (smod W x y)) := by
        unfold Hid; rw [HS.out]; simp only [ne_eq, h0, not_false_eq_true, bne_iff_ne, Bool.true_eq_false, and_self, if_true, neg, bl_mod]
        refine bl_congr ?_
        rw [Nat.mod_add_mod, Nat.add_comm]
      clear HS
      go_wp2_with ((first | (go_at_call 79; refine (HMA.out _ HA4.out).mono ?_; rintro e wz ⟨rfl, rfl⟩) | (go_at_call 79; refine (HMB.out _ HB4.out).mono ?_; rintro e wz ⟨rfl, rfl⟩)))
      refine (rsub HB4.out HR4.out hW hul).mono ?_
      rintro e w5 ⟨r5, rfl, hB5, hb5⟩
      have HR5 : Hid (Rd w5 r5 W (bl W (smod W x y))) := by unfold Hid; rw [← HE.out]; exact Bs.rd hB5 (bl_len W _).symm
      clear hB5 HE
      go_wp2_with fail
      go_ret
      exact ⟨_, _, rfl, HR5.out, hbl4.trans (hb5.mono hbl4.size)⟩
    · have HE : Hid (smod W x y = neg W u) := by unfold Hid; rw [HS.out]; simp
      clear HS
      go_wp2_with ((first | (go_at_call 79; refine (HMA.out _ HA4.out).mono ?_; rintro e wz ⟨rfl, rfl⟩) | (go_at_call 79; refine (HMB.out _ HB4.out).mono ?_; rintro e wz ⟨rfl, rfl⟩)))
      refine (refneg_any HR4.out hW hul).mono ?_
      rintro e w5 ⟨r5, rfl, hB5, hb5⟩
      have HR5 : Hid (Rd w5 r5 W (bl W (smod W x y))) := by unfold Hid; rw [HE.out]; exact Bs.rd hB5 (bl_len W _).symm
      clear hB5 HE
      go_wp2_with fail
      go_ret
      exact ⟨_, _, rfl, HR5.out, hbl4.trans (hb5.mono hbl4.size)⟩

set_option maxHeartbeats 3200000 in
theorem reach {op : Int} {v u r : Bool} (hop : (op = 12 ∧ r = (v && u)) ∨ (op = 13 ∧ r = (v || u)) ∨ (op = 14 ∧ r = (v != u)) ∨ (op = 15 ∧ r = !(v && u)) ∨ (op = 16 ∧ r = !(v || u)) ∨ (op = 17 ∧ r = (v == u))) (w : World) :
    Calls Tryz.prog 73 #[.int .i64 op, .bool v, .bool u] w fun e w' => e = .returned (.bool r) ∧ w' = w := by
  rcases hop with ⟨rfl, rfl⟩ | ⟨rfl, rfl⟩ | ⟨rfl, rfl⟩ | ⟨rfl, rfl⟩ | ⟨rfl, rfl⟩ | ⟨rfl, rfl⟩
  all_goals
    cases v <;> cases u
  all_goals
    go_enter Tryz.func73, Tryz.ntmps73
    go_wp2
    go_ret
    exact ⟨rfl, rfl⟩
end Go.Proofs.YtohfjpahdoodgaaGreatDoor.Ag

/- Contracts: the document's operators that answer a word of the same width. -/
namespace Go.Proofs.YtohfjpahdoodgaaGreatDoor.Ag
open Go.RowKit
set_option linter.unusedSimpArgs false
set_option linter.unusedVariables false

/-- What it leaves: a list of the bits of n, and that the operator is known. -/
abbrev Tw (W n : Nat) (w : World) (e : Ending) (w' : World) : Prop := ∃ r c, e = .returned (.tuple #[.slice (some ⟨r, 0, none⟩) W c, .bool true]) ∧ Rd w' r W (bl W n) ∧ Below w.heap.size w w'

theorem nb_down1 {W n x : Nat} (hx : x < 2 ^ W) : (List.range W).map (fun j => if j + n < W then (bl W x).getD (j + n) false else true) = bl W (2 ^ W - 1 - (2 ^ W - 1 - x) / 2 ^ n) := by
  apply List.ext_getElem?; intro j
  by_cases hj : j < W
  · simp only [bl, List.getElem?_map, List.getElem?_range hj, Option.map_some]
    have hz : (2 ^ W - 1 - x) / 2 ^ n < 2 ^ W := Nat.lt_of_le_of_lt (Nat.div_le_self _ _) (by have := Nat.two_pow_pos W; omega)
    rw [show 2 ^ W - 1 - (2 ^ W - 1 - x) / 2 ^ n = 2 ^ W - ((2 ^ W - 1 - x) / 2 ^ n + 1) by omega, Nat.testBit_two_pow_sub_succ hz, Nat.testBit_div_two_pow, show 2 ^ W - 1 - x = 2 ^ W - (x + 1) by omega, Nat.testBit_two_pow_sub_succ hx]
    congr 1
    by_cases h : j + n < W
    · simp [h, hj]
    · simp [h, hj]
  · simp [bl, hj]
theorem rdown1 {w : World} {g c W n x : Nat} (h : Rd w g W (bl W x)) (hW : W ≤ 128) (hn : n ≤ W) (hx : x < 2 ^ W) :
    Calls Tryz.prog 84 #[.slice (some ⟨g, 0, none⟩) W c, .int .i64 (n : Int), .bool true] w (Nw W (2 ^ W - 1 - (2 ^ W - 1 - x) / 2 ^ n) w) := by
  refine (refdown_any (c := c) h hW hn).mono ?_
  rintro e w' ⟨r, rfl, hB, hb⟩
  refine ⟨r, rfl, ?_, hb⟩
  rw [← nb_down1 hx]; exact hB

theorem bl_bits {k W x y : Nat} (hk : k ≤ 5) (hx : x < 2 ^ W) (hy : y < 2 ^ W) (f : Bool → Bool → Bool) (hf : (k = 0 ∧ f = fun v u => v && u) ∨ (k = 1 ∧ f = fun v u => v || u) ∨ (k = 2 ∧ f = fun v u => v != u) ∨ (k = 3 ∧ f = fun v u => !(v && u)) ∨ (k = 4 ∧ f = fun v u => !(v || u)) ∨ (k = 5 ∧ f = fun v u => v == u)) :
    (List.range W).map (fun j => f (x.testBit j) (y.testBit j)) = bl W (lowop k W x y) := by
  apply List.ext_getElem?; intro j
  by_cases hj : j < W
  · simp only [bl, List.getElem?_map, List.getElem?_range hj, Option.map_some]
    congr 1
    have e : ∀ z, z < 2 ^ W → (2 ^ W - 1 - z).testBit j = !z.testBit j := fun z hz => by
      rw [show 2 ^ W - 1 - z = 2 ^ W - (z + 1) by omega, Nat.testBit_two_pow_sub_succ hz]; simp [hj]
    rcases hf with ⟨rfl, rfl⟩ | ⟨rfl, rfl⟩ | ⟨rfl, rfl⟩ | ⟨rfl, rfl⟩ | ⟨rfl, rfl⟩ | ⟨rfl, rfl⟩
    · simp [lowop]
    · simp [lowop]
    · simp only [lowop, Nat.testBit_xor]
    · simp only [lowop]; rw [e _ (Nat.lt_of_le_of_lt Nat.and_le_left hx), Nat.testBit_and]
    · simp only [lowop]; rw [e _ (Nat.or_lt_two_pow hx hy), Nat.testBit_or]
    · simp only [lowop]; rw [e _ (Nat.xor_lt_two_pow hx hy), Nat.testBit_xor]; cases x.testBit j <;> cases y.testBit j <;> rfl
  · simp [bl, hj]

set_option maxRecDepth 20000 in
set_option maxHeartbeats 3200000 in
theorem rwords_bits {w : World} {g g' c c' W x y N : Nat} {op : Int} {f : Bool → Bool → Bool} (hop : op = 12 ∨ op = 13 ∨ op = 14 ∨ op = 15 ∨ op = 16 ∨ op = 17) (HE : Hid (∀ v u wx, Calls Tryz.prog 73 #[.int .i64 op, .bool v, .bool u] wx fun e w' => e = .returned (.bool (f v u)) ∧ w' = wx)) (hN : (List.range W).map (fun j => f (x.testBit j) (y.testBit j)) = bl W N) (ha : Rd w g W (bl W x)) (hb : Rd w g' W (bl W y)) (hW : W ≤ 128) :
    Calls Tryz.prog 49 #[.int .i64 op, .slice (some ⟨g, 0, none⟩) W c, .slice (some ⟨g', 0, none⟩) W c'] w (Tw W N w) := by
  have hmk := make_bools W hW
  have HA : Hid (Rd w g W (bl W x)) := ha
  have HB : Hid (Rd w g' W (bl W y)) := hb
  have hg := ha.2.1
  have hg' := hb.2.1
  obtain ⟨F, hF⟩ : ∃ F : Nat → Bool, F = fun j => f (x.testBit j) (y.testBit j) := ⟨_, rfl⟩
  have HF : Hid (∀ j, F j = f (x.testBit j) (y.testBit j)) := fun j => by rw [hF]
  rw [← hF] at hN
  have HN : Hid ((List.range W).map F = bl W N) := hN
  clear ha hb hF hN
  rcases hop with rfl | rfl | rfl | rfl | rfl | rfl
  all_goals
    go_enter Tryz.func49, Tryz.ntmps49
    go_wp2_with fail
    go_loopw [9] (fun i wr => ∃ k : Nat, k ≤ W ∧ i = .int .i64 k ∧ Bs wr w.heap.size (.slice (some ⟨w.heap.size, 0, none⟩) W W) (part W k F) ∧ Below w.heap.size w wr) (fun i _ => W - (intOf i).toNat)
    case atStart =>
      refine ⟨0, Nat.zero_le _, rfl, ?_, ?_⟩
      · rw [part_zero]; exact Bs.made W (Nat.le_refl _) (by omega)
      · go_grown
    case round =>
      obtain ⟨k, hk, rfl, hB, hbl⟩ := hrel
      have HBk : Hid (Bs wr w.heap.size (.slice (some ⟨w.heap.size, 0, none⟩) W W) (part W k F)) := hB
      clear hB
      have hbs := hbl.size
      by_cases hlt : k < W
      · obtain ⟨v, hv⟩ : ∃ v, v = x.testBit k := ⟨_, rfl⟩
        obtain ⟨u, hu⟩ : ∃ u, u = y.testBit k := ⟨_, rfl⟩
        have hck : wr.cell? ⟨g, k, none⟩ = some (.bool v) := by rw [hv]; exact Rd.bit (Rd.keepB HA.out hg hbl) hlt
        have hck' : wr.cell? ⟨g', k, none⟩ = some (.bool u) := by rw [hu]; exact Rd.bit (Rd.keepB HB.out hg' hbl) hlt
        have hco : wr.cell? ⟨w.heap.size, k, none⟩ = some (.bool false) := Bs.cell HBk.out (part_len W k _).symm (part_cell hlt)
        have hfo : wr.frozen? ⟨w.heap.size, k, none⟩ = false := Bs.frozen HBk.out (part_len W k _).symm k
        have HV : Hid (f v u = F k) := by unfold Hid; rw [HF.out k, hv, hu]
        have ne1 : ¬ (w.heap.size = g) := by omega
        have ne2 : ¬ (w.heap.size = g') := by omega
        clear hv hu
        go_wp2_with fail
        go_region_held3 (fun z => z.cell? ⟨g, k, none⟩ = some (.bool v) ∧ z.cell? ⟨g', k, none⟩ = some (.bool u))
          ((refine ⟨?_, ?_⟩ <;> simp [go_sem, hck, hck', ne1, ne2]))
          ((go_at_call 73; refine (HE.out _ _ _).mono ?_; rintro e wq ⟨rfl, rfl⟩))
        go_wp2_with fail
        refine ⟨⟨k + 1, by omega, by go_num, ?_, (hbl.setCell (by simp) _).drew⟩, by simp [intOf]; omega⟩
        rw [← part_put HV.out]; exact Bs.drew (Bs.store HBk.out (part_len W k _).symm k _)
      · obtain rfl : k = W := by omega
        have HR : Hid (Rd wr w.heap.size k (bl k N)) := by
          unfold Hid; rw [← HN.out, ← part_all]; exact Bs.rd HBk.out (part_len _ _ _).symm
        clear HBk
        go_wp2_with fail
        refine bodyPost_ret (v := .tuple #[.slice (some ⟨w.heap.size, 0, none⟩) k k, .bool true]) (by simp [results, Tryz.results49, go_sem]) rfl ?_
        exact ⟨_, _, rfl, HR.out, hbl⟩
end Go.Proofs.YtohfjpahdoodgaaGreatDoor.Ag
