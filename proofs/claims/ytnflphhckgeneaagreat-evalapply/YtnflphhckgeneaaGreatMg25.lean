/- Operators whose low bits hang on the low bits alone: one contract for all of them, and the plain law. -/
import Derived.Test.YtnflphhckgeneaaGreatK
import Derived.Test.YtnflphhckgeneaaGreatMg22
namespace Go.Proofs.YtnflphhckgeneaaGreat
set_option maxHeartbeats 12800000
set_option maxRecDepth 100000
open Go.RowKit
set_option linter.unusedSimpArgs false
set_option linter.unusedVariables false

/-- The k-th operator from the and on: and, or, xor, nand, nor, xnor, sum, difference, product. -/
def lowop (k W n m : Nat) : Nat :=
  match k with
  | 0 => n &&& m
  | 1 => n ||| m
  | 2 => n ^^^ m
  | 3 => 2 ^ W - 1 - (n &&& m)
  | 4 => 2 ^ W - 1 - (n ||| m)
  | 5 => 2 ^ W - 1 - (n ^^^ m)
  | 6 => (n + m) % 2 ^ W
  | 7 => (n + neg W m) % 2 ^ W
  | _ => n * m % 2 ^ W

theorem lowop_lt {k W n m : Nat} (hn : n < 2 ^ W) (hm : m < 2 ^ W) : lowop k W n m < 2 ^ W := by
  have := Nat.two_pow_pos W
  unfold lowop
  split
  · exact Nat.lt_of_le_of_lt Nat.and_le_left hn
  · exact Nat.or_lt_two_pow hn hm
  · exact Nat.xor_lt_two_pow hn hm
  · omega
  · omega
  · omega
  · exact mod_lt_W _ _
  · exact mod_lt_W _ _
  · exact mod_lt_W _ _


/-- The k-th shift (up, down, down with the sign) by d. -/
def sh (k W n d : Nat) : Nat :=
  match k with
  | 0 => n * 2 ^ d % 2 ^ W
  | 1 => n / 2 ^ d
  | _ => if n.testBit (W - 1) then 2 ^ W - 1 - (2 ^ W - 1 - n) / 2 ^ d else n / 2 ^ d

theorem sh_lt {k W n d : Nat} (hn : n < 2 ^ W) : sh k W n d < 2 ^ W := by
  have := Nat.two_pow_pos W
  have h2 := Nat.lt_of_le_of_lt (Nat.div_le_self n (2 ^ d)) hn
  unfold sh
  split
  · exact mod_lt_W _ _
  · exact h2
  · split
    · exact turn_lt _ W
    · exact h2

/-- What is left where a shift goes too far: nothing, or the sign. -/
def far (k W n : Nat) : Nat := if k = 2 ∧ n.testBit (W - 1) = true then 2 ^ W - 1 else 0

theorem rminusw {w : World} {g c W x : Nat} (h : Rd w g W (bl W x)) (h1 : 1 ≤ W) (hW : W ≤ 128) :
    Calls Tryz.prog 98 #[.slice (some ⟨g, 0, none⟩) W c] w fun e w' => e = .returned (.bool (x.testBit (W - 1))) ∧ w' = w := by
  have hc : w.cell? ⟨g, W - 1, none⟩ = some (.bool (x.testBit (W - 1))) := Rd.bit h (by omega)
  have h0 : (0 : Int) ≤ (W : Int) - 1 := by omega
  have h1' : (W : Int) - 1 < W := by omega
  have h2 : ((W : Int) - 1).toNat = W - 1 := by omega
  clear h
  go_enter Tryz.func98, Tryz.ntmps98
  go_wp2
  go_ret
  exact ⟨rfl, rfl⟩

theorem urem_lt2 {n m W : Nat} (hn : n < 2 ^ W) : urem n m < 2 ^ W := by
  unfold urem; split
  · exact hn
  · exact Nat.lt_of_le_of_lt (Nat.mod_le _ _) hn

theorem rsmod {w : World} {g g' c c' W x y : Nat} (ha : Rd w g W (bl W x)) (hb : Rd w g' W (bl W y)) (h1 : 1 ≤ W) (hW : W ≤ 128) (hx : x < 2 ^ W) (hy : y < 2 ^ W) :
    Calls Tryz.prog 128 #[.slice (some ⟨g, 0, none⟩) W c, .slice (some ⟨g', 0, none⟩) W c'] w (Rw W (smod W x y) w) := by
  obtain ⟨u, hu⟩ : ∃ u, u = urem (wsign W x x) (wsign W y y) := ⟨_, rfl⟩
  have hul : u < 2 ^ W := by rw [hu]; exact urem_lt2 (wsign_lt hx)
  obtain ⟨sa, hsa⟩ : ∃ sa, sa = x.testBit (W - 1) := ⟨_, rfl⟩
  obtain ⟨sb, hsb⟩ : ∃ sb, sb = y.testBit (W - 1) := ⟨_, rfl⟩
  have HS : Hid (smod W x y = if u ≠ 0 ∧ (sa != sb) = true then ((if sa then neg W u else u) + y) % 2 ^ W else (if sa then neg W u else u)) := by
    unfold Hid smod wsign; rw [← hsa, ← hsb]; unfold wsign at hu; rw [← hsa, ← hsb] at hu; rw [← hu]
  have HMA : Hid (∀ wx, Rd wx g W (bl W x) → Calls Tryz.prog 98 #[.slice (some ⟨g, 0, none⟩) W c] wx fun e w' => e = .returned (.bool sa) ∧ w' = wx) := fun wx h => by rw [hsa]; exact rminusw h h1 hW
  have HMB : Hid (∀ wx, Rd wx g' W (bl W y) → Calls Tryz.prog 98 #[.slice (some ⟨g', 0, none⟩) W c'] wx fun e w' => e = .returned (.bool sb) ∧ w' = wx) := fun wx h => by rw [hsb]; exact rminusw h h1 hW
  have HA : Hid (Rd w g W (bl W x)) := ha
  have HB : Hid (Rd w g' W (bl W y)) := hb
  clear ha hb hsa hsb
  go_enter Tryz.func128, Tryz.ntmps128
  go_wp2_with fail
  refine (rsize HA.out h1 hW hx).mono ?_
  rintro e w1 ⟨r1, c1, rfl, hR1, hb1⟩
  have HR1 : Hid (Rd w1 r1 W (bl W (wsign W x x))) := hR1
  have HA1 : Hid (Rd w1 g W (bl W x)) := Rd.keep HA.out hb1
  have HB1 : Hid (Rd w1 g' W (bl W y)) := Rd.keep HB.out hb1
  clear hR1 HA HB
  go_wp2_with fail
  refine (rsize HB1.out h1 hW hy).mono ?_
  rintro e w2 ⟨r2, c2, rfl, hR2, hb2⟩
  have HR2 : Hid (Rd w2 r2 W (bl W (wsign W y y))) := hR2
  have HR12 : Hid (Rd w2 r1 W (bl W (wsign W x x))) := Rd.keep HR1.out hb2
  have HA2 : Hid (Rd w2 g W (bl W x)) := Rd.keep HA1.out hb2
  have HB2 : Hid (Rd w2 g' W (bl W y)) := Rd.keep HB1.out hb2
  have hbl2 : Below w.heap.size w w2 := hb1.trans (hb2.mono hb1.size)
  clear hR2 HA1 HB1 HR1 hb1 hb2
  go_wp2_with fail
  refine (rdiv HR12.out HR2.out h1 hW (wsign_lt hx) (wsign_lt hy)).mono ?_
  rintro e w3 ⟨q3, r3, cq, cr, rfl, -, hR3, hb3⟩
  have HR3 : Hid (Rd w3 r3 W (bl W u)) := by unfold Hid; rw [hu]; exact hR3
  have HA3 : Hid (Rd w3 g W (bl W x)) := Rd.keep HA2.out hb3
  have HB3 : Hid (Rd w3 g' W (bl W y)) := Rd.keep HB2.out hb3
  have hbl3 : Below w.heap.size w w3 := hbl2.trans (hb3.mono hbl2.size)
  clear hR3 HA2 HB2 HR12 HR2 hbl2 hb3 hu
  have HZ := rzero (c := cr) HR3.out hW hul
  by_cases h0 : u = 0
  · rw [show decide (u = 0) = true by simp [h0]] at HZ
    have HZH : Hid _ := HZ
    have HE : Hid (smod W x y = u) := by
      unfold Hid; rw [HS.out, if_neg (by simp [h0])]
      cases sa
      · rfl
      · rw [if_pos rfl, h0]; simp [neg]
    clear HZ HS
    go_wp2_with fail
    refine Calls.mono HZH.out ?_
    rintro e w4 ⟨rfl, hb4⟩
    have HR4 : Hid (Rd w4 r3 W (bl W u)) := Rd.keep HR3.out hb4
    clear HZH HR3 HA3 HB3
    go_wp2_with fail
    go_ret
    exact ⟨_, _, rfl, by rw [HE.out]; exact HR4.out, hbl3.trans (hb4.mono hbl3.size)⟩
  · rw [show decide (u = 0) = false by simp [h0]] at HZ
    have HZH : Hid _ := HZ
    clear HZ
    go_wp2_with fail
    refine Calls.mono HZH.out ?_
    rintro e w4 ⟨rfl, hb4⟩
    have HR4 : Hid (Rd w4 r3 W (bl W u)) := Rd.keep HR3.out hb4
    have HA4 : Hid (Rd w4 g W (bl W x)) := Rd.keep HA3.out hb4
    have HB4 : Hid (Rd w4 g' W (bl W y)) := Rd.keep HB3.out hb4
    have hbl4 : Below w.heap.size w w4 := hbl3.trans (hb4.mono hbl3.size)
    clear HZH HR3 HA3 HB3 hbl3 hb4
    cases sa <;> cases sb
    · have HE : Hid (smod W x y = u) := by unfold Hid; rw [HS.out]; simp
      clear HS
      go_wp2_with ((first | (go_at_call 98; refine (HMA.out _ HA4.out).mono ?_; rintro e wz ⟨rfl, rfl⟩) | (go_at_call 98; refine (HMB.out _ HB4.out).mono ?_; rintro e wz ⟨rfl, rfl⟩)))
      go_ret
      exact ⟨_, _, rfl, by rw [HE.out]; exact HR4.out, hbl4⟩
    · have HE : Hid (bl W (u + y + false.toNat) = bl W (smod W x y)) := by unfold Hid; rw [HS.out]; simp [h0, bl_mod]
      clear HS
      go_wp2_with ((first | (go_at_call 98; refine (HMA.out _ HA4.out).mono ?_; rintro e wz ⟨rfl, rfl⟩) | (go_at_call 98; refine (HMB.out _ HB4.out).mono ?_; rintro e wz ⟨rfl, rfl⟩)))
      refine (radd HR4.out HB4.out hW).mono ?_
      rintro e w5 ⟨r5, rfl, hB5, hb5⟩
      have HR5 : Hid (Rd w5 r5 W (bl W (smod W x y))) := by unfold Hid; rw [← HE.out]; exact Bs.rd hB5 (bl_len W _).symm
      clear hB5 HE
      go_wp2_with fail
      go_ret
      exact ⟨_, _, rfl, HR5.out, hbl4.trans (hb5.mono hbl4.size)⟩
    · have HE : Hid (bl W (y + (2 ^ W - u)) = bl W (smod W x y)) := by
        unfold Hid; rw [HS.out]; simp only [ne_eq, h0, not_false_eq_true, bne_iff_ne, Bool.true_eq_false, and_self, if_true, neg, bl_mod]
        refine bl_congr ?_
        rw [Nat.mod_add_mod, Nat.add_comm]
      clear HS
      go_wp2_with ((first | (go_at_call 98; refine (HMA.out _ HA4.out).mono ?_; rintro e wz ⟨rfl, rfl⟩) | (go_at_call 98; refine (HMB.out _ HB4.out).mono ?_; rintro e wz ⟨rfl, rfl⟩)))
      refine (rsub HB4.out HR4.out hW hul).mono ?_
      rintro e w5 ⟨r5, rfl, hB5, hb5⟩
      have HR5 : Hid (Rd w5 r5 W (bl W (smod W x y))) := by unfold Hid; rw [← HE.out]; exact Bs.rd hB5 (bl_len W _).symm
      clear hB5 HE
      go_wp2_with fail
      go_ret
      exact ⟨_, _, rfl, HR5.out, hbl4.trans (hb5.mono hbl4.size)⟩
    · have HE : Hid (smod W x y = neg W u) := by unfold Hid; rw [HS.out]; simp
      clear HS
      go_wp2_with ((first | (go_at_call 98; refine (HMA.out _ HA4.out).mono ?_; rintro e wz ⟨rfl, rfl⟩) | (go_at_call 98; refine (HMB.out _ HB4.out).mono ?_; rintro e wz ⟨rfl, rfl⟩)))
      refine (refneg_any HR4.out hW hul).mono ?_
      rintro e w5 ⟨r5, rfl, hB5, hb5⟩
      have HR5 : Hid (Rd w5 r5 W (bl W (smod W x y))) := by unfold Hid; rw [HE.out]; exact Bs.rd hB5 (bl_len W _).symm
      clear hB5 HE
      go_wp2_with fail
      go_ret
      exact ⟨_, _, rfl, HR5.out, hbl4.trans (hb5.mono hbl4.size)⟩

theorem reach {op : Int} {v u r : Bool} (hop : (op = 12 ∧ r = (v && u)) ∨ (op = 13 ∧ r = (v || u)) ∨ (op = 14 ∧ r = (v != u)) ∨ (op = 15 ∧ r = !(v && u)) ∨ (op = 16 ∧ r = !(v || u)) ∨ (op = 17 ∧ r = (v == u))) (w : World) :
    Calls Tryz.prog 123 #[.int .i64 op, .bool v, .bool u] w fun e w' => e = .returned (.bool r) ∧ w' = w := by
  rcases hop with ⟨rfl, rfl⟩ | ⟨rfl, rfl⟩ | ⟨rfl, rfl⟩ | ⟨rfl, rfl⟩ | ⟨rfl, rfl⟩ | ⟨rfl, rfl⟩
  all_goals
    cases v <;> cases u
  all_goals
    go_enter Tryz.func123, Tryz.ntmps123
    go_wp2
    go_ret
    exact ⟨rfl, rfl⟩

/-- What it leaves: a list of the bits of n, and that the operator is known. -/
abbrev Tw (W n : Nat) (w : World) (e : Ending) (w' : World) : Prop := ∃ r c, e = .returned (.tuple #[.slice (some ⟨r, 0, none⟩) W c, .bool true]) ∧ Rd w' r W (bl W n) ∧ Below w.heap.size w w'

theorem nb_down1 {W n x : Nat} (hx : x < 2 ^ W) : (List.range W).map (fun j => if j + n < W then (bl W x).getD (j + n) false else true) = bl W (2 ^ W - 1 - (2 ^ W - 1 - x) / 2 ^ n) := by
  apply List.ext_getElem?; intro j
  by_cases hj : j < W
  · simp only [bl, List.getElem?_map, List.getElem?_range hj, Option.map_some]
    have hz : (2 ^ W - 1 - x) / 2 ^ n < 2 ^ W := Nat.lt_of_le_of_lt (Nat.div_le_self _ _) (by have := Nat.two_pow_pos W; omega)
    rw [show 2 ^ W - 1 - (2 ^ W - 1 - x) / 2 ^ n = 2 ^ W - ((2 ^ W - 1 - x) / 2 ^ n + 1) by omega, Nat.testBit_two_pow_sub_succ hz, Nat.testBit_div_two_pow, show 2 ^ W - 1 - x = 2 ^ W - (x + 1) by omega, Nat.testBit_two_pow_sub_succ hx]
    congr 1
    by_cases h : j + n < W
    · simp [h, hj]
    · simp [h, hj]
  · simp [bl, hj]
theorem rdown1 {w : World} {g c W n x : Nat} (h : Rd w g W (bl W x)) (hW : W ≤ 128) (hn : n ≤ W) (hx : x < 2 ^ W) :
    Calls Tryz.prog 131 #[.slice (some ⟨g, 0, none⟩) W c, .int .i64 (n : Int), .bool true] w (Nw W (2 ^ W - 1 - (2 ^ W - 1 - x) / 2 ^ n) w) := by
  refine (refdown_any (c := c) h hW hn).mono ?_
  rintro e w' ⟨r, rfl, hB, hb⟩
  refine ⟨r, rfl, ?_, hb⟩
  rw [← nb_down1 hx]; exact hB

theorem bl_bits {k W x y : Nat} (hk : k ≤ 5) (hx : x < 2 ^ W) (hy : y < 2 ^ W) (f : Bool → Bool → Bool) (hf : (k = 0 ∧ f = fun v u => v && u) ∨ (k = 1 ∧ f = fun v u => v || u) ∨ (k = 2 ∧ f = fun v u => v != u) ∨ (k = 3 ∧ f = fun v u => !(v && u)) ∨ (k = 4 ∧ f = fun v u => !(v || u)) ∨ (k = 5 ∧ f = fun v u => v == u)) :
    (List.range W).map (fun j => f (x.testBit j) (y.testBit j)) = bl W (lowop k W x y) := by
  apply List.ext_getElem?; intro j
  by_cases hj : j < W
  · simp only [bl, List.getElem?_map, List.getElem?_range hj, Option.map_some]
    congr 1
    have e : ∀ z, z < 2 ^ W → (2 ^ W - 1 - z).testBit j = !z.testBit j := fun z hz => by
      rw [show 2 ^ W - 1 - z = 2 ^ W - (z + 1) by omega, Nat.testBit_two_pow_sub_succ hz]; simp [hj]
    rcases hf with ⟨rfl, rfl⟩ | ⟨rfl, rfl⟩ | ⟨rfl, rfl⟩ | ⟨rfl, rfl⟩ | ⟨rfl, rfl⟩ | ⟨rfl, rfl⟩
    · simp [lowop]
    · simp [lowop]
    · simp only [lowop, Nat.testBit_xor]
    · simp only [lowop]; rw [e _ (Nat.lt_of_le_of_lt Nat.and_le_left hx), Nat.testBit_and]
    · simp only [lowop]; rw [e _ (Nat.or_lt_two_pow hx hy), Nat.testBit_or]
    · simp only [lowop]; rw [e _ (Nat.xor_lt_two_pow hx hy), Nat.testBit_xor]; cases x.testBit j <;> cases y.testBit j <;> rfl
  · simp [bl, hj]

theorem rwords_bits {w : World} {g g' c c' W x y N : Nat} {op : Int} {f : Bool → Bool → Bool} (hop : op = 12 ∨ op = 13 ∨ op = 14 ∨ op = 15 ∨ op = 16 ∨ op = 17) (HE : Hid (∀ v u wx, Calls Tryz.prog 123 #[.int .i64 op, .bool v, .bool u] wx fun e w' => e = .returned (.bool (f v u)) ∧ w' = wx)) (hN : (List.range W).map (fun j => f (x.testBit j) (y.testBit j)) = bl W N) (ha : Rd w g W (bl W x)) (hb : Rd w g' W (bl W y)) (hW : W ≤ 128) :
    Calls Tryz.prog 99 #[.int .i64 op, .slice (some ⟨g, 0, none⟩) W c, .slice (some ⟨g', 0, none⟩) W c'] w (Tw W N w) := by
  have hmk := make_bools W hW
  have HA : Hid (Rd w g W (bl W x)) := ha
  have HB : Hid (Rd w g' W (bl W y)) := hb
  have hg := ha.2.1
  have hg' := hb.2.1
  obtain ⟨F, hF⟩ : ∃ F : Nat → Bool, F = fun j => f (x.testBit j) (y.testBit j) := ⟨_, rfl⟩
  have HF : Hid (∀ j, F j = f (x.testBit j) (y.testBit j)) := fun j => by rw [hF]
  rw [← hF] at hN
  have HN : Hid ((List.range W).map F = bl W N) := hN
  clear ha hb hF hN
  rcases hop with rfl | rfl | rfl | rfl | rfl | rfl
  all_goals
    go_enter Tryz.func99, Tryz.ntmps99
    go_wp2_with fail
    go_loopw [9] (fun i wr => ∃ k : Nat, k ≤ W ∧ i = .int .i64 k ∧ Bs wr w.heap.size (.slice (some ⟨w.heap.size, 0, none⟩) W W) (part W k F) ∧ Below w.heap.size w wr) (fun i _ => W - (intOf i).toNat)
    case atStart =>
      refine ⟨0, Nat.zero_le _, rfl, ?_, ?_⟩
      · rw [part_zero]; exact Bs.made W (Nat.le_refl _) (by omega)
      · go_grown
    case round =>
      obtain ⟨k, hk, rfl, hB, hbl⟩ := hrel
      have HBk : Hid (Bs wr w.heap.size (.slice (some ⟨w.heap.size, 0, none⟩) W W) (part W k F)) := hB
      clear hB
      have hbs := hbl.size
      by_cases hlt : k < W
      · obtain ⟨v, hv⟩ : ∃ v, v = x.testBit k := ⟨_, rfl⟩
        obtain ⟨u, hu⟩ : ∃ u, u = y.testBit k := ⟨_, rfl⟩
        have hck : wr.cell? ⟨g, k, none⟩ = some (.bool v) := by rw [hv]; exact Rd.bit (Rd.keepB HA.out hg hbl) hlt
        have hck' : wr.cell? ⟨g', k, none⟩ = some (.bool u) := by rw [hu]; exact Rd.bit (Rd.keepB HB.out hg' hbl) hlt
        have hco : wr.cell? ⟨w.heap.size, k, none⟩ = some (.bool false) := Bs.cell HBk.out (part_len W k _).symm (part_cell hlt)
        have hfo : wr.frozen? ⟨w.heap.size, k, none⟩ = false := Bs.frozen HBk.out (part_len W k _).symm k
        have HV : Hid (f v u = F k) := by unfold Hid; rw [HF.out k, hv, hu]
        have ne1 : ¬ (w.heap.size = g) := by omega
        have ne2 : ¬ (w.heap.size = g') := by omega
        clear hv hu
        go_wp2_with fail
        go_region_held3 (fun z => z.cell? ⟨g, k, none⟩ = some (.bool v) ∧ z.cell? ⟨g', k, none⟩ = some (.bool u))
          ((refine ⟨?_, ?_⟩ <;> simp [go_sem, hck, hck', ne1, ne2]))
          ((go_at_call 123; refine (HE.out _ _ _).mono ?_; rintro e wq ⟨rfl, rfl⟩))
        go_wp2_with fail
        refine ⟨⟨k + 1, by omega, by go_num, ?_, (hbl.setCell (by simp) _).drew⟩, by simp [intOf]; omega⟩
        rw [← part_put HV.out]; exact Bs.drew (Bs.store HBk.out (part_len W k _).symm k _)
      · obtain rfl : k = W := by omega
        have HR : Hid (Rd wr w.heap.size k (bl k N)) := by
          unfold Hid; rw [← HN.out, ← part_all]; exact Bs.rd HBk.out (part_len _ _ _).symm
        clear HBk
        go_wp2_with fail
        refine bodyPost_ret (v := .tuple #[.slice (some ⟨w.heap.size, 0, none⟩) k k, .bool true]) (by simp [results, Tryz.results99, go_sem]) rfl ?_
        exact ⟨_, _, rfl, HR.out, hbl⟩

theorem rwords_low {w : World} {g g' c c' W x y k : Nat} {op : Int} (hop : op = 12 + (k : Int)) (hk : k ≤ 5) (ha : Rd w g W (bl W x)) (hb : Rd w g' W (bl W y)) (hW : W ≤ 128) (hx : x < 2 ^ W) (hy : y < 2 ^ W) :
    Calls Tryz.prog 99 #[.int .i64 op, .slice (some ⟨g, 0, none⟩) W c, .slice (some ⟨g', 0, none⟩) W c'] w (Tw W (lowop k W x y) w) := by
  have hk6 : k = 0 ∨ k = 1 ∨ k = 2 ∨ k = 3 ∨ k = 4 ∨ k = 5 := by omega
  rcases hk6 with rfl | rfl | rfl | rfl | rfl | rfl
  · exact rwords_bits (f := fun v u => v && u) (by omega) (fun v u wx => reach (by simp [hop]) wx) (bl_bits (by omega) hx hy _ (by simp)) ha hb hW
  · exact rwords_bits (f := fun v u => v || u) (by omega) (fun v u wx => reach (by simp [hop]) wx) (bl_bits (by omega) hx hy _ (by simp)) ha hb hW
  · exact rwords_bits (f := fun v u => v != u) (by omega) (fun v u wx => reach (by simp [hop]) wx) (bl_bits (by omega) hx hy _ (by simp)) ha hb hW
  · exact rwords_bits (f := fun v u => !(v && u)) (by omega) (fun v u wx => reach (by simp [hop]) wx) (bl_bits (by omega) hx hy _ (Or.inr (Or.inr (Or.inr (Or.inl ⟨rfl, rfl⟩))))) ha hb hW
  · exact rwords_bits (f := fun v u => !(v || u)) (by omega) (fun v u wx => reach (by simp [hop]) wx) (bl_bits (by omega) hx hy _ (Or.inr (Or.inr (Or.inr (Or.inr (Or.inl ⟨rfl, rfl⟩)))))) ha hb hW
  · exact rwords_bits (f := fun v u => v == u) (by omega) (fun v u wx => reach (by simp [hop]) wx) (bl_bits (by omega) hx hy _ (by simp)) ha hb hW

/-- A new list's way out. -/
theorem tw_of {W n m : Nat} {w w' : World} {r : Nat} (hB : Bs w' w.heap.size (.slice (some ⟨r, 0, none⟩) W W) (bl W n)) (he : bl W n = bl W m) : Rd w' r W (bl W m) := by
  rw [← he]; exact Bs.rd hB (bl_len W n).symm

theorem rwords_add {w : World} {g g' c c' W x y : Nat} (ha : Rd w g W (bl W x)) (hb : Rd w g' W (bl W y)) (hW : W ≤ 128) :
    Calls Tryz.prog 99 #[.int .i64 18, .slice (some ⟨g, 0, none⟩) W c, .slice (some ⟨g', 0, none⟩) W c'] w (Tw W (lowop 6 W x y) w) := by
  have HA : Hid (Rd w g W (bl W x)) := ha
  have HB : Hid (Rd w g' W (bl W y)) := hb
  clear ha hb
  go_enter Tryz.func99, Tryz.ntmps99
  go_wp2_with fail
  refine (radd HA.out HB.out hW).mono ?_
  rintro e w1 ⟨r, rfl, hB, hb1⟩
  have HR : Hid (Rd w1 r W (bl W (lowop 6 W x y))) := tw_of hB (by simp only [lowop, bl_mod]; simp)
  clear hB HA HB
  go_wp2_with fail
  refine bodyPost_ret (v := .tuple #[.slice (some ⟨r, 0, none⟩) W W, .bool true]) (by simp [results, Tryz.results99, go_sem]) rfl ?_
  exact ⟨_, _, rfl, HR.out, hb1⟩

theorem rwords_sub {w : World} {g g' c c' W x y : Nat} (ha : Rd w g W (bl W x)) (hb : Rd w g' W (bl W y)) (hW : W ≤ 128) (hy : y < 2 ^ W) :
    Calls Tryz.prog 99 #[.int .i64 19, .slice (some ⟨g, 0, none⟩) W c, .slice (some ⟨g', 0, none⟩) W c'] w (Tw W (lowop 7 W x y) w) := by
  have HA : Hid (Rd w g W (bl W x)) := ha
  have HB : Hid (Rd w g' W (bl W y)) := hb
  clear ha hb
  go_enter Tryz.func99, Tryz.ntmps99
  go_wp2_with fail
  refine (rsub HA.out HB.out hW hy).mono ?_
  rintro e w1 ⟨r, rfl, hB, hb1⟩
  have HR : Hid (Rd w1 r W (bl W (lowop 7 W x y))) := tw_of hB (by simp only [lowop, bl_mod, neg]; exact bl_congr (by rw [Nat.add_mod_mod]))
  clear hB HA HB
  go_wp2_with fail
  refine bodyPost_ret (v := .tuple #[.slice (some ⟨r, 0, none⟩) W W, .bool true]) (by simp [results, Tryz.results99, go_sem]) rfl ?_
  exact ⟨_, _, rfl, HR.out, hb1⟩

theorem rwords_mul {w : World} {g g' c c' W x y : Nat} (ha : Rd w g W (bl W x)) (hb : Rd w g' W (bl W y)) (hW : W ≤ 128) (hy : y < 2 ^ W) :
    Calls Tryz.prog 99 #[.int .i64 20, .slice (some ⟨g, 0, none⟩) W c, .slice (some ⟨g', 0, none⟩) W c'] w (Tw W (lowop 8 W x y) w) := by
  have HA : Hid (Rd w g W (bl W x)) := ha
  have HB : Hid (Rd w g' W (bl W y)) := hb
  clear ha hb
  go_enter Tryz.func99, Tryz.ntmps99
  go_wp2_with fail
  refine (refmul_any HA.out HB.out hW hy).mono ?_
  rintro e w1 ⟨r, rfl, hB, hb1⟩
  have HR : Hid (Rd w1 r W (bl W (lowop 8 W x y))) := tw_of hB (by simp only [lowop, bl_mod])
  clear hB HA HB
  go_wp2_with fail
  refine bodyPost_ret (v := .tuple #[.slice (some ⟨r, 0, none⟩) W W, .bool true]) (by simp [results, Tryz.results99, go_sem]) rfl ?_
  exact ⟨_, _, rfl, HR.out, hb1⟩

theorem rwords_udiv {w : World} {g g' c c' W x y : Nat} (ha : Rd w g W (bl W x)) (hb : Rd w g' W (bl W y)) (h1 : 1 ≤ W) (hW : W ≤ 128) (hx : x < 2 ^ W) (hy : y < 2 ^ W) :
    Calls Tryz.prog 99 #[.int .i64 21, .slice (some ⟨g, 0, none⟩) W c, .slice (some ⟨g', 0, none⟩) W c'] w (Tw W (udiv W x y) w) := by
  have HA : Hid (Rd w g W (bl W x)) := ha
  have HB : Hid (Rd w g' W (bl W y)) := hb
  clear ha hb
  go_enter Tryz.func99, Tryz.ntmps99
  go_wp2_with fail
  refine (rdiv HA.out HB.out h1 hW hx hy).mono ?_
  rintro e w1 ⟨q, r, cq, cr, rfl, hQ, -, hb1⟩
  have HR : Hid (Rd w1 q W (bl W (udiv W x y))) := hQ
  clear hQ HA HB
  go_wp2_with fail
  refine bodyPost_ret (v := .tuple #[.slice (some ⟨q, 0, none⟩) W cq, .bool true]) (by simp [results, Tryz.results99, go_sem]) rfl ?_
  exact ⟨_, _, rfl, HR.out, hb1⟩

theorem rwords_urem {w : World} {g g' c c' W x y : Nat} (ha : Rd w g W (bl W x)) (hb : Rd w g' W (bl W y)) (h1 : 1 ≤ W) (hW : W ≤ 128) (hx : x < 2 ^ W) (hy : y < 2 ^ W) :
    Calls Tryz.prog 99 #[.int .i64 22, .slice (some ⟨g, 0, none⟩) W c, .slice (some ⟨g', 0, none⟩) W c'] w (Tw W (urem x y) w) := by
  have HA : Hid (Rd w g W (bl W x)) := ha
  have HB : Hid (Rd w g' W (bl W y)) := hb
  clear ha hb
  go_enter Tryz.func99, Tryz.ntmps99
  go_wp2_with fail
  refine (rdiv HA.out HB.out h1 hW hx hy).mono ?_
  rintro e w1 ⟨q, r, cq, cr, rfl, -, hQ, hb1⟩
  have HR : Hid (Rd w1 r W (bl W (urem x y))) := hQ
  clear hQ HA HB
  go_wp2_with fail
  refine bodyPost_ret (v := .tuple #[.slice (some ⟨r, 0, none⟩) W cr, .bool true]) (by simp [results, Tryz.results99, go_sem]) rfl ?_
  exact ⟨_, _, rfl, HR.out, hb1⟩

theorem rwords_smod {w : World} {g g' c c' W x y : Nat} (ha : Rd w g W (bl W x)) (hb : Rd w g' W (bl W y)) (h1 : 1 ≤ W) (hW : W ≤ 128) (hx : x < 2 ^ W) (hy : y < 2 ^ W) :
    Calls Tryz.prog 99 #[.int .i64 25, .slice (some ⟨g, 0, none⟩) W c, .slice (some ⟨g', 0, none⟩) W c'] w (Tw W (smod W x y) w) := by
  have HA : Hid (Rd w g W (bl W x)) := ha
  have HB : Hid (Rd w g' W (bl W y)) := hb
  clear ha hb
  go_enter Tryz.func99, Tryz.ntmps99
  go_wp2_with fail
  refine (rsmod HA.out HB.out h1 hW hx hy).mono ?_
  rintro e w1 ⟨r, cr, rfl, hQ, hb1⟩
  have HR : Hid (Rd w1 r W (bl W (smod W x y))) := hQ
  clear hQ HA HB
  go_wp2_with fail
  refine bodyPost_ret (v := .tuple #[.slice (some ⟨r, 0, none⟩) W cr, .bool true]) (by simp [results, Tryz.results99, go_sem]) rfl ?_
  exact ⟨_, _, rfl, HR.out, hb1⟩

theorem rwords_shl {w : World} {g g' c c' W x y : Nat} (ha : Rd w g W (bl W x)) (hb : Rd w g' W (bl W y)) (hW : W ≤ 128) (hy : y < 2 ^ W) :
    Calls Tryz.prog 99 #[.int .i64 26, .slice (some ⟨g, 0, none⟩) W c, .slice (some ⟨g', 0, none⟩) W c'] w (Tw W (sh 0 W x (dist y W)) w) := by
  have HA : Hid (Rd w g W (bl W x)) := ha
  have HB : Hid (Rd w g' W (bl W y)) := hb
  clear ha hb
  go_enter Tryz.func99, Tryz.ntmps99
  go_wp2_with fail
  refine (ramount HB.out hW hy).mono ?_
  rintro e w0 ⟨rfl, hb0⟩
  have HA0 : Hid (Rd w0 g W (bl W x)) := Rd.keep HA.out hb0
  clear HA HB
  go_wp2_with fail
  refine (rup HA0.out hW (Nat.min_le_right _ _)).mono ?_
  rintro e w1 ⟨r, rfl, hB, hb1⟩
  have HR : Hid (Rd w1 r W (bl W (sh 0 W x (dist y W)))) := tw_of hB (by simp only [sh, bl_mod, dist])
  clear hB HA0
  go_wp2_with fail
  refine bodyPost_ret (v := .tuple #[.slice (some ⟨r, 0, none⟩) W W, .bool true]) (by simp [results, Tryz.results99, go_sem]) rfl ?_
  exact ⟨_, _, rfl, HR.out, hb0.trans (hb1.mono hb0.size)⟩

theorem rwords_lshr {w : World} {g g' c c' W x y : Nat} (ha : Rd w g W (bl W x)) (hb : Rd w g' W (bl W y)) (hW : W ≤ 128) (hx : x < 2 ^ W) (hy : y < 2 ^ W) :
    Calls Tryz.prog 99 #[.int .i64 27, .slice (some ⟨g, 0, none⟩) W c, .slice (some ⟨g', 0, none⟩) W c'] w (Tw W (sh 1 W x (dist y W)) w) := by
  have HA : Hid (Rd w g W (bl W x)) := ha
  have HB : Hid (Rd w g' W (bl W y)) := hb
  clear ha hb
  go_enter Tryz.func99, Tryz.ntmps99
  go_wp2_with fail
  refine (ramount HB.out hW hy).mono ?_
  rintro e w0 ⟨rfl, hb0⟩
  have HA0 : Hid (Rd w0 g W (bl W x)) := Rd.keep HA.out hb0
  clear HA HB
  go_wp2_with fail
  refine (rdown HA0.out hW (Nat.min_le_right _ _)).mono ?_
  rintro e w1 ⟨r, rfl, hB, hb1⟩
  have HR : Hid (Rd w1 r W (bl W (sh 1 W x (dist y W)))) := tw_of hB (by simp only [sh, dist, Nat.mod_eq_of_lt hx])
  clear hB HA0
  go_wp2_with fail
  refine bodyPost_ret (v := .tuple #[.slice (some ⟨r, 0, none⟩) W W, .bool true]) (by simp [results, Tryz.results99, go_sem]) rfl ?_
  exact ⟨_, _, rfl, HR.out, hb0.trans (hb1.mono hb0.size)⟩

theorem rwords_ashr {w : World} {g g' c c' W x y : Nat} (ha : Rd w g W (bl W x)) (hb : Rd w g' W (bl W y)) (h1 : 1 ≤ W) (hW : W ≤ 128) (hx : x < 2 ^ W) (hy : y < 2 ^ W) :
    Calls Tryz.prog 99 #[.int .i64 28, .slice (some ⟨g, 0, none⟩) W c, .slice (some ⟨g', 0, none⟩) W c'] w (Tw W (sh 2 W x (dist y W)) w) := by
  have HA : Hid (Rd w g W (bl W x)) := ha
  have HB : Hid (Rd w g' W (bl W y)) := hb
  clear ha hb
  obtain ⟨s, hs⟩ : ∃ s, s = x.testBit (W - 1) := ⟨_, rfl⟩
  have HM : Hid (∀ wx, Rd wx g W (bl W x) → Rt 98 #[.slice (some ⟨g, 0, none⟩) W c] wx (.bool s)) := fun wx h => by rw [hs]; exact rminus h h1 hW
  have HS : Hid (sh 2 W x (dist y W) = if s then 2 ^ W - 1 - (2 ^ W - 1 - x) / 2 ^ min y W else x / 2 ^ min y W) := by unfold Hid; rw [hs]; rfl
  clear hs
  go_enter Tryz.func99, Tryz.ntmps99
  go_wp2_with fail
  refine (ramount HB.out hW hy).mono ?_
  rintro e w0 ⟨rfl, hb0⟩
  have HA0 : Hid (Rd w0 g W (bl W x)) := Rd.keep HA.out hb0
  clear HA HB
  go_wp2_with fail
  refine (HM.out _ HA0.out).mono ?_
  rintro e w2 ⟨rfl, hb2⟩
  have HA2 : Hid (Rd w2 g W (bl W x)) := Rd.keep HA0.out hb2
  have hbl2 : Below w.heap.size w w2 := hb0.trans (hb2.mono hb0.size)
  clear HA0 HM hb0 hb2
  cases s
  · go_wp2_with fail
    refine (rdown HA2.out hW (Nat.min_le_right _ _)).mono ?_
    rintro e w1 ⟨r, rfl, hB, hb1⟩
    have HR : Hid (Rd w1 r W (bl W (sh 2 W x (dist y W)))) := tw_of hB (by rw [HS.out]; simp [Nat.mod_eq_of_lt hx])
    clear hB HA2 HS
    go_wp2_with fail
    refine bodyPost_ret (v := .tuple #[.slice (some ⟨r, 0, none⟩) W W, .bool true]) (by simp [results, Tryz.results99, go_sem]) rfl ?_
    exact ⟨_, _, rfl, HR.out, hbl2.trans (hb1.mono hbl2.size)⟩
  · go_wp2_with fail
    refine (rdown1 HA2.out hW (Nat.min_le_right _ _) hx).mono ?_
    rintro e w1 ⟨r, rfl, hB, hb1⟩
    have HR : Hid (Rd w1 r W (bl W (sh 2 W x (dist y W)))) := tw_of hB (by rw [HS.out]; simp)
    clear hB HA2 HS
    go_wp2_with fail
    refine bodyPost_ret (v := .tuple #[.slice (some ⟨r, 0, none⟩) W W, .bool true]) (by simp [results, Tryz.results99, go_sem]) rfl ?_
    exact ⟨_, _, rfl, HR.out, hbl2.trans (hb1.mono hbl2.size)⟩

theorem rwords_sdiv {w : World} {g g' c c' W x y : Nat} (ha : Rd w g W (bl W x)) (hb : Rd w g' W (bl W y)) (h1 : 1 ≤ W) (hW : W ≤ 128) (hx : x < 2 ^ W) (hy : y < 2 ^ W) (hc : udiv W (wsign W x x) (wsign W y y) < 2 ^ W) :
    Calls Tryz.prog 99 #[.int .i64 23, .slice (some ⟨g, 0, none⟩) W c, .slice (some ⟨g', 0, none⟩) W c'] w (Tw W (sdiv W x y) w) := by
  obtain ⟨sa, hsa⟩ : ∃ sa, sa = x.testBit (W - 1) := ⟨_, rfl⟩
  obtain ⟨sb, hsb⟩ : ∃ sb, sb = y.testBit (W - 1) := ⟨_, rfl⟩
  have HS : Hid (sdiv W x y = if (sa != sb) = true then neg W (udiv W (wsign W x x) (wsign W y y)) else udiv W (wsign W x x) (wsign W y y)) := by
    unfold Hid sdiv; rw [← hsa, ← hsb]
  have HMA : Hid (∀ wx, Rd wx g W (bl W x) → Rt 98 #[.slice (some ⟨g, 0, none⟩) W c] wx (.bool sa)) := fun wx h => by rw [hsa]; exact rminus h h1 hW
  have HMB : Hid (∀ wx, Rd wx g' W (bl W y) → Rt 98 #[.slice (some ⟨g', 0, none⟩) W c'] wx (.bool sb)) := fun wx h => by rw [hsb]; exact rminus h h1 hW
  have HA : Hid (Rd w g W (bl W x)) := ha
  have HB : Hid (Rd w g' W (bl W y)) := hb
  obtain ⟨U, hU⟩ : ∃ U, U = udiv W (wsign W x x) (wsign W y y) := ⟨_, rfl⟩
  rw [← hU] at hc HS
  clear ha hb hsa hsb
  go_enter Tryz.func99, Tryz.ntmps99
  go_wp2_with fail
  refine (rsize HA.out h1 hW hx).mono ?_
  rintro e w1 ⟨r1, c1, rfl, hR1, hb1⟩
  have HR1 : Hid (Rd w1 r1 W (bl W (wsign W x x))) := hR1
  have HA1 : Hid (Rd w1 g W (bl W x)) := Rd.keep HA.out hb1
  have HB1 : Hid (Rd w1 g' W (bl W y)) := Rd.keep HB.out hb1
  clear hR1 HA HB
  go_wp2_with fail
  refine (rsize HB1.out h1 hW hy).mono ?_
  rintro e w2 ⟨r2, c2, rfl, hR2, hb2⟩
  have HR2 : Hid (Rd w2 r2 W (bl W (wsign W y y))) := hR2
  have HR12 : Hid (Rd w2 r1 W (bl W (wsign W x x))) := Rd.keep HR1.out hb2
  have HA2 : Hid (Rd w2 g W (bl W x)) := Rd.keep HA1.out hb2
  have HB2 : Hid (Rd w2 g' W (bl W y)) := Rd.keep HB1.out hb2
  have hbl2 : Below w.heap.size w w2 := hb1.trans (hb2.mono hb1.size)
  clear hR2 HA1 HB1 HR1 hb1 hb2
  go_wp2_with fail
  refine (rdiv HR12.out HR2.out h1 hW (wsign_lt hx) (wsign_lt hy)).mono ?_
  rintro e w3 ⟨q3, r3, cq, cr, rfl, hQ3, hR3, hb3⟩
  have HR3 : Hid (Rd w3 q3 W (bl W U)) := by unfold Hid; rw [hU]; exact hQ3
  have HA3 : Hid (Rd w3 g W (bl W x)) := Rd.keep HA2.out hb3
  have HB3 : Hid (Rd w3 g' W (bl W y)) := Rd.keep HB2.out hb3
  have hbl3 : Below w.heap.size w w3 := hbl2.trans (hb3.mono hbl2.size)
  clear hQ3 hR3 HA2 HB2 HR12 HR2 hbl2 hb3 hU
  go_wp2_with fail
  refine (HMA.out _ HA3.out).mono ?_
  rintro e w4 ⟨rfl, hb4⟩
  have HR4 : Hid (Rd w4 q3 W (bl W U)) := Rd.keep HR3.out hb4
  have HB4 : Hid (Rd w4 g' W (bl W y)) := Rd.keep HB3.out hb4
  have hbl4 : Below w.heap.size w w4 := hbl3.trans (hb4.mono hbl3.size)
  clear HR3 HA3 HB3 hbl3 hb4
  go_wp2_with fail
  refine (HMB.out _ HB4.out).mono ?_
  rintro e w5 ⟨rfl, hb5⟩
  have HR5 : Hid (Rd w5 q3 W (bl W U)) := Rd.keep HR4.out hb5
  have hbl5 : Below w.heap.size w w5 := hbl4.trans (hb5.mono hbl4.size)
  clear HR4 HB4 hbl4 hb5
  cases sa <;> cases sb
  · have HE : Hid (sdiv W x y = U) := by unfold Hid; rw [HS.out]; rfl
    clear HS
    go_wp2_with fail
    refine bodyPost_ret (v := .tuple #[.slice (some ⟨q3, 0, none⟩) W cq, .bool true]) (by simp [results, Tryz.results99, go_sem]) rfl ?_
    exact ⟨_, _, rfl, by rw [HE.out]; exact HR5.out, hbl5⟩
  · have HE : Hid (sdiv W x y = neg W U) := by unfold Hid; rw [HS.out]; rfl
    clear HS
    go_wp2_with fail
    refine (refneg_any HR5.out hW hc).mono ?_
    rintro e w6 ⟨r6, rfl, hB6, hb6⟩
    have HR6 : Hid (Rd w6 r6 W (bl W (sdiv W x y))) := by unfold Hid; rw [HE.out]; exact Bs.rd hB6 (bl_len W _).symm
    clear hB6 HE
    go_wp2_with fail
    refine bodyPost_ret (v := .tuple #[.slice (some ⟨r6, 0, none⟩) W W, .bool true]) (by simp [results, Tryz.results99, go_sem]) rfl ?_
    exact ⟨_, _, rfl, HR6.out, hbl5.trans (hb6.mono hbl5.size)⟩
  · have HE : Hid (sdiv W x y = neg W U) := by unfold Hid; rw [HS.out]; rfl
    clear HS
    go_wp2_with fail
    refine (refneg_any HR5.out hW hc).mono ?_
    rintro e w6 ⟨r6, rfl, hB6, hb6⟩
    have HR6 : Hid (Rd w6 r6 W (bl W (sdiv W x y))) := by unfold Hid; rw [HE.out]; exact Bs.rd hB6 (bl_len W _).symm
    clear hB6 HE
    go_wp2_with fail
    refine bodyPost_ret (v := .tuple #[.slice (some ⟨r6, 0, none⟩) W W, .bool true]) (by simp [results, Tryz.results99, go_sem]) rfl ?_
    exact ⟨_, _, rfl, HR6.out, hbl5.trans (hb6.mono hbl5.size)⟩
  · have HE : Hid (sdiv W x y = U) := by unfold Hid; rw [HS.out]; rfl
    clear HS
    go_wp2_with fail
    refine bodyPost_ret (v := .tuple #[.slice (some ⟨q3, 0, none⟩) W cq, .bool true]) (by simp [results, Tryz.results99, go_sem]) rfl ?_
    exact ⟨_, _, rfl, by rw [HE.out]; exact HR5.out, hbl5⟩

theorem rwords_srem {w : World} {g g' c c' W x y : Nat} (ha : Rd w g W (bl W x)) (hb : Rd w g' W (bl W y)) (h1 : 1 ≤ W) (hW : W ≤ 128) (hx : x < 2 ^ W) (hy : y < 2 ^ W) (hc : urem (wsign W x x) (wsign W y y) < 2 ^ W) :
    Calls Tryz.prog 99 #[.int .i64 24, .slice (some ⟨g, 0, none⟩) W c, .slice (some ⟨g', 0, none⟩) W c'] w (Tw W (srem W x y) w) := by
  obtain ⟨sa, hsa⟩ : ∃ sa, sa = x.testBit (W - 1) := ⟨_, rfl⟩
  obtain ⟨sb, hsb⟩ : ∃ sb, sb = y.testBit (W - 1) := ⟨_, rfl⟩
  have HS : Hid (srem W x y = if sa = true then neg W (urem (wsign W x x) (wsign W y y)) else urem (wsign W x x) (wsign W y y)) := by
    unfold Hid srem; rw [wsign, ← hsa]
  have HMA : Hid (∀ wx, Rd wx g W (bl W x) → Rt 98 #[.slice (some ⟨g, 0, none⟩) W c] wx (.bool sa)) := fun wx h => by rw [hsa]; exact rminus h h1 hW
  have HMB : Hid (∀ wx, Rd wx g' W (bl W y) → Rt 98 #[.slice (some ⟨g', 0, none⟩) W c'] wx (.bool sb)) := fun wx h => by rw [hsb]; exact rminus h h1 hW
  have HA : Hid (Rd w g W (bl W x)) := ha
  have HB : Hid (Rd w g' W (bl W y)) := hb
  obtain ⟨U, hU⟩ : ∃ U, U = urem (wsign W x x) (wsign W y y) := ⟨_, rfl⟩
  rw [← hU] at hc HS
  clear ha hb hsa hsb
  go_enter Tryz.func99, Tryz.ntmps99
  go_wp2_with fail
  refine (rsize HA.out h1 hW hx).mono ?_
  rintro e w1 ⟨r1, c1, rfl, hR1, hb1⟩
  have HR1 : Hid (Rd w1 r1 W (bl W (wsign W x x))) := hR1
  have HA1 : Hid (Rd w1 g W (bl W x)) := Rd.keep HA.out hb1
  have HB1 : Hid (Rd w1 g' W (bl W y)) := Rd.keep HB.out hb1
  clear hR1 HA HB
  go_wp2_with fail
  refine (rsize HB1.out h1 hW hy).mono ?_
  rintro e w2 ⟨r2, c2, rfl, hR2, hb2⟩
  have HR2 : Hid (Rd w2 r2 W (bl W (wsign W y y))) := hR2
  have HR12 : Hid (Rd w2 r1 W (bl W (wsign W x x))) := Rd.keep HR1.out hb2
  have HA2 : Hid (Rd w2 g W (bl W x)) := Rd.keep HA1.out hb2
  have HB2 : Hid (Rd w2 g' W (bl W y)) := Rd.keep HB1.out hb2
  have hbl2 : Below w.heap.size w w2 := hb1.trans (hb2.mono hb1.size)
  clear hR2 HA1 HB1 HR1 hb1 hb2
  go_wp2_with fail
  refine (rdiv HR12.out HR2.out h1 hW (wsign_lt hx) (wsign_lt hy)).mono ?_
  rintro e w3 ⟨q3, r3, cq, cr, rfl, hQ3, hR3, hb3⟩
  have HR3 : Hid (Rd w3 r3 W (bl W U)) := by unfold Hid; rw [hU]; exact hR3
  have HA3 : Hid (Rd w3 g W (bl W x)) := Rd.keep HA2.out hb3
  have HB3 : Hid (Rd w3 g' W (bl W y)) := Rd.keep HB2.out hb3
  have hbl3 : Below w.heap.size w w3 := hbl2.trans (hb3.mono hbl2.size)
  clear hQ3 hR3 HA2 HB2 HR12 HR2 hbl2 hb3 hU
  go_wp2_with fail
  refine (HMA.out _ HA3.out).mono ?_
  rintro e w4 ⟨rfl, hb4⟩
  have HR4 : Hid (Rd w4 r3 W (bl W U)) := Rd.keep HR3.out hb4
  have HB4 : Hid (Rd w4 g' W (bl W y)) := Rd.keep HB3.out hb4
  have hbl4 : Below w.heap.size w w4 := hbl3.trans (hb4.mono hbl3.size)
  clear HR3 HA3 HB3 hbl3 hb4
  cases sa
  · have HE : Hid (srem W x y = U) := by unfold Hid; rw [HS.out]; rfl
    clear HS
    go_wp2_with fail
    refine bodyPost_ret (v := .tuple #[.slice (some ⟨r3, 0, none⟩) W cr, .bool true]) (by simp [results, Tryz.results99, go_sem]) rfl ?_
    exact ⟨_, _, rfl, by rw [HE.out]; exact HR4.out, hbl4⟩
  · have HE : Hid (srem W x y = neg W U) := by unfold Hid; rw [HS.out]; rfl
    clear HS
    go_wp2_with fail
    refine (refneg_any HR4.out hW hc).mono ?_
    rintro e w6 ⟨r6, rfl, hB6, hb6⟩
    have HR6 : Hid (Rd w6 r6 W (bl W (srem W x y))) := by unfold Hid; rw [HE.out]; exact Bs.rd hB6 (bl_len W _).symm
    clear hB6 HE
    go_wp2_with fail
    refine bodyPost_ret (v := .tuple #[.slice (some ⟨r6, 0, none⟩) W W, .bool true]) (by simp [results, Tryz.results99, go_sem]) rfl ?_
    exact ⟨_, _, rfl, HR6.out, hbl4.trans (hb6.mono hbl4.size)⟩

theorem rwords_none {w : World} {op : Int} {v u : Value} (h : op < 12 ∨ 28 < op) :
    Rt 99 #[.int .i64 op, v, u] w (.tuple #[.slice none 0 0, .bool false]) := by
  have q12 : (op == 12) = false := by simp; omega
  have q13 : (op == 13) = false := by simp; omega
  have q14 : (op == 14) = false := by simp; omega
  have q15 : (op == 15) = false := by simp; omega
  have q16 : (op == 16) = false := by simp; omega
  have q17 : (op == 17) = false := by simp; omega
  have q18 : (op == 18) = false := by simp; omega
  have q19 : (op == 19) = false := by simp; omega
  have q20 : (op == 20) = false := by simp; omega
  have q21 : (op == 21) = false := by simp; omega
  have q22 : (op == 22) = false := by simp; omega
  have q23 : (op == 23) = false := by simp; omega
  have q24 : (op == 24) = false := by simp; omega
  have q25 : (op == 25) = false := by simp; omega
  have q26 : (op == 26) = false := by simp; omega
  have q27 : (op == 27) = false := by simp; omega
  have q28 : (op == 28) = false := by simp; omega
  clear h
  go_enter Tryz.func99, Tryz.ntmps99
  go_wp2_with fail
  refine bodyPost_ret (v := .tuple #[.slice none 0 0, .bool false]) (by simp [results, Tryz.results99, go_sem]) rfl ?_
  exact ⟨rfl, Below.refl _ _⟩
end Go.Proofs.YtnflphhckgeneaaGreat
