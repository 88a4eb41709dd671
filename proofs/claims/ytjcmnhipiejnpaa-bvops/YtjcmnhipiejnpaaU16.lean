/- Contracts: the document's rest with the divisor's sign; its operators bit by bit. -/
import Derived.Test.YtjcmnhipiejnpaaU15
import Derived.Test.YtjcmnhipiejnpaaJD
import Derived.Test.YtjcmnhipiejnpaaQ3
namespace Go.Proofs.Ytjcmnhipiejnpaa
open Go.RowKit
set_option linter.unusedSimpArgs false
set_option linter.unusedVariables false

theorem rminusw {w : World} {g c W x : Nat} (h : Rd w g W (bl W x)) (h1 : 1 ≤ W) (hW : W ≤ 128) :
    Calls Try.prog 54 #[.slice (some ⟨g, 0, none⟩) W c] w fun e w' => e = .returned (.bool (x.testBit (W - 1))) ∧ w' = w := by
  have hc : w.cell? ⟨g, W - 1, none⟩ = some (.bool (x.testBit (W - 1))) := Rd.bit h (by omega)
  have h0 : (0 : Int) ≤ (W : Int) - 1 := by omega
  have h1' : (W : Int) - 1 < W := by omega
  have h2 : ((W : Int) - 1).toNat = W - 1 := by omega
  clear h
  go_enter Try.func54, Try.ntmps54
  go_wp2
  go_ret
  exact ⟨rfl, rfl⟩

theorem urem_lt2 {n m W : Nat} (hn : n < 2 ^ W) : urem n m < 2 ^ W := by
  unfold urem; split
  · exact hn
  · exact Nat.lt_of_le_of_lt (Nat.mod_le _ _) hn

set_option maxRecDepth 20000 in
set_option maxHeartbeats 3200000 in
theorem rsmod {w : World} {g g' c c' W x y : Nat} (ha : Rd w g W (bl W x)) (hb : Rd w g' W (bl W y)) (h1 : 1 ≤ W) (hW : W ≤ 128) (hx : x < 2 ^ W) (hy : y < 2 ^ W) :
    Calls Try.prog 94 #[.slice (some ⟨g, 0, none⟩) W c, .slice (some ⟨g', 0, none⟩) W c'] w (Rw W (smod W x y) w) := by
  obtain ⟨u, hu⟩ : ∃ u, u = urem (wsign W x x) (wsign W y y) := ⟨_, rfl⟩
  have hul : u < 2 ^ W := by rw [hu]; exact urem_lt2 (wsign_lt hx)
  obtain ⟨sa, hsa⟩ : ∃ sa, sa = x.testBit (W - 1) := ⟨_, rfl⟩
  obtain ⟨sb, hsb⟩ : ∃ sb, sb = y.testBit (W - 1) := ⟨_, rfl⟩
  have HS : Hid (smod W x y = if u ≠ 0 ∧ (sa != sb) = true then ((if sa then neg W u else u) + y) % 2 ^ W else (if sa then neg W u else u)) := by
    unfold Hid smod wsign; rw [← hsa, ← hsb]; unfold wsign at hu; rw [← hsa, ← hsb] at hu; rw [← hu]
  have HMA : Hid (∀ wx, Rd wx g W (bl W x) → Calls Try.prog 54 #[.slice (some ⟨g, 0, none⟩) W c] wx fun e w' => e = .returned (.bool sa) ∧ w' = wx) := fun wx h => by rw [hsa]; exact rminusw h h1 hW
  have HMB : Hid (∀ wx, Rd wx g' W (bl W y) → Calls Try.prog 54 #[.slice (some ⟨g', 0, none⟩) W c'] wx fun e w' => e = .returned (.bool sb) ∧ w' = wx) := fun wx h => by rw [hsb]; exact rminusw h h1 hW
  have HA : Hid (Rd w g W (bl W x)) := ha
  have HB : Hid (Rd w g' W (bl W y)) := hb
  clear ha hb hsa hsb
  go_enter Try.func94, Try.ntmps94
  go_wp2_with fail
  refine (rsize HA.out h1 hW hx).mono ?_
  rintro e w1 ⟨r1, c1, rfl, hR1, hb1⟩
  have HR1 : Hid (Rd w1 r1 W (bl W (wsign W x x))) := hR1
  have HA1 : Hid (Rd w1 g W (bl W x)) := Rd.keep HA.out hb1
  have HB1 : Hid (Rd w1 g' W (bl W y)) := Rd.keep HB.out hb1
  clear hR1 HA HB
  go_wp2_with fail
  refine (rsize HB1.out h1 hW hy).mono ?_
  rintro e w2 ⟨r2, c2, rfl, hR2, hb2⟩
  have HR2 : Hid (Rd w2 r2 W (bl W (wsign W y y))) := hR2
  have HR12 : Hid (Rd w2 r1 W (bl W (wsign W x x))) := Rd.keep HR1.out hb2
  have HA2 : Hid (Rd w2 g W (bl W x)) := Rd.keep HA1.out hb2
  have HB2 : Hid (Rd w2 g' W (bl W y)) := Rd.keep HB1.out hb2
  have hbl2 : Below w.heap.size w w2 := hb1.trans (hb2.mono hb1.size)
  clear hR2 HA1 HB1 HR1 hb1 hb2
  go_wp2_with fail
  refine (rdiv HR12.out HR2.out h1 hW (wsign_lt hx) (wsign_lt hy)).mono ?_
  rintro e w3 ⟨q3, r3, cq, cr, rfl, -, hR3, hb3⟩
  have HR3 : Hid (Rd w3 r3 W (bl W u)) := by unfold Hid; rw [hu]; exact hR3
  have HA3 : Hid (Rd w3 g W (bl W x)) := Rd.keep HA2.out hb3
  have HB3 : Hid (Rd w3 g' W (bl W y)) := Rd.keep HB2.out hb3
  have hbl3 : Below w.heap.size w w3 := hbl2.trans (hb3.mono hbl2.size)
  clear hR3 HA2 HB2 HR12 HR2 hbl2 hb3 hu
  have HZ := rzero (c := cr) HR3.out hW hul
  by_cases h0 : u = 0
  · rw [show decide (u = 0) = true by simp [h0]] at HZ
    have HZH : Hid _ := HZ
    have HE : Hid (smod W x y = u) := by
      unfold Hid; rw [HS.out, if_neg (by simp [h0])]
      cases sa
      · rfl
      · rw [if_pos rfl, h0]; simp [neg]
    clear HZ HS
    go_wp2_with fail
    refine Calls.mono HZH.out ?_
    rintro e w4 ⟨rfl, hb4⟩
    have HR4 : Hid (Rd w4 r3 W (bl W u)) := Rd.keep HR3.out hb4
    clear HZH HR3 HA3 HB3
    go_wp2_with fail
    go_ret
    exact ⟨_, _, rfl, by rw [HE.out]; exact HR4.out, hbl3.trans (hb4.mono hbl3.size)⟩
  · rw [show decide (u = 0) = false by simp [h0]] at HZ
    have HZH : Hid _ := HZ
    clear HZ
    go_wp2_with fail
    refine Calls.mono HZH.out ?_
    rintro e w4 ⟨rfl, hb4⟩
    have HR4 : Hid (Rd w4 r3 W (bl W u)) := Rd.keep HR3.out hb4
    have HA4 : Hid (Rd w4 g W (bl W x)) := Rd.keep HA3.out hb4
    have HB4 : Hid (Rd w4 g' W (bl W y)) := Rd.keep HB3.out hb4
    have hbl4 : Below w.heap.size w w4 := hbl3.trans (hb4.mono hbl3.size)
    clear HZH HR3 HA3 HB3 hbl3 hb4
    cases sa <;> cases sb
    · have HE : Hid (smod W x y = u) := by unfold Hid; rw [HS.out]; simp
      clear HS
      go_wp2_with ((first | (go_at_call 54; refine (HMA.out _ HA4.out).mono ?_; rintro e wz ⟨rfl, rfl⟩) | (go_at_call 54; refine (HMB.out _ HB4.out).mono ?_; rintro e wz ⟨rfl, rfl⟩)))
      go_ret
      exact ⟨_, _, rfl, by rw [HE.out]; exact HR4.out, hbl4⟩
    · have HE : Hid (bl W (u + y + false.toNat) = bl W (smod W x y)) := by unfold Hid; rw [HS.out]; simp [h0, bl_mod]
      clear HS
      go_wp2_with ((first | (go_at_call 54; refine (HMA.out _ HA4.out).mono ?_; rintro e wz ⟨rfl, rfl⟩) | (go_at_call 54; refine (HMB.out _ HB4.out).mono ?_; rintro e wz ⟨rfl, rfl⟩)))
      refine (radd HR4.out HB4.out hW).mono ?_
      rintro e w5 ⟨r5, rfl, hB5, hb5⟩
      have HR5 : Hid (Rd w5 r5 W (bl W (smod W x y))) := by unfold Hid; rw [← HE.out]; exact Bs.rd hB5 (bl_len W _).symm
      clear hB5 HE
      go_wp2_with fail
      go_ret
      exact ⟨_, _, rfl, HR5.out, hbl4.trans (hb5.mono hbl4.size)⟩
    · have HE : Hid (bl W (y + (2 ^ W - u)) = bl W (smod W x y)) := by
        unfold Hid; rw [HS.out]; simp only [ne_eq, h0, not_false_eq_true, bne_iff_ne, Bool.true_eq_false, and_self, if_true, neg, bl_mod]
        refine bl_congr ?_
        rw [Nat.mod_add_mod, Nat.add_comm]
      clear HS
      go_wp2_with ((first | (go_at_call 54; refine (HMA.out _ HA4.out).mono ?_; rintro e wz ⟨rfl, rfl⟩) | (go_at_call 54; refine (HMB.out _ HB4.out).mono ?_; rintro e wz ⟨rfl, rfl⟩)))
      refine (rsub HB4.out HR4.out hW hul).mono ?_
      rintro e w5 ⟨r5, rfl, hB5, hb5⟩
      have HR5 : Hid (Rd w5 r5 W (bl W (smod W x y))) := by unfold Hid; rw [← HE.out]; exact Bs.rd hB5 (bl_len W _).symm
      clear hB5 HE
      go_wp2_with fail
      go_ret
      exact ⟨_, _, rfl, HR5.out, hbl4.trans (hb5.mono hbl4.size)⟩
    · have HE : Hid (smod W x y = neg W u) := by unfold Hid; rw [HS.out]; simp
      clear HS
      go_wp2_with ((first | (go_at_call 54; refine (HMA.out _ HA4.out).mono ?_; rintro e wz ⟨rfl, rfl⟩) | (go_at_call 54; refine (HMB.out _ HB4.out).mono ?_; rintro e wz ⟨rfl, rfl⟩)))
      refine (refneg_any HR4.out hW hul).mono ?_
      rintro e w5 ⟨r5, rfl, hB5, hb5⟩
      have HR5 : Hid (Rd w5 r5 W (bl W (smod W x y))) := by unfold Hid; rw [HE.out]; exact Bs.rd hB5 (bl_len W _).symm
      clear hB5 HE
      go_wp2_with fail
      go_ret
      exact ⟨_, _, rfl, HR5.out, hbl4.trans (hb5.mono hbl4.size)⟩

set_option maxHeartbeats 3200000 in
theorem reach {op : Int} {v u r : Bool} (hop : (op = 12 ∧ r = (v && u)) ∨ (op = 13 ∧ r = (v || u)) ∨ (op = 14 ∧ r = (v != u)) ∨ (op = 15 ∧ r = !(v && u)) ∨ (op = 16 ∧ r = !(v || u)) ∨ (op = 17 ∧ r = (v == u))) (w : World) :
    Calls Try.prog 88 #[.int .i64 op, .bool v, .bool u] w fun e w' => e = .returned (.bool r) ∧ w' = w := by
  rcases hop with ⟨rfl, rfl⟩ | ⟨rfl, rfl⟩ | ⟨rfl, rfl⟩ | ⟨rfl, rfl⟩ | ⟨rfl, rfl⟩ | ⟨rfl, rfl⟩
  all_goals
    cases v <;> cases u
  all_goals
    go_enter Try.func88, Try.ntmps88
    go_wp2
    go_ret
    exact ⟨rfl, rfl⟩
end Go.Proofs.Ytjcmnhipiejnpaa
