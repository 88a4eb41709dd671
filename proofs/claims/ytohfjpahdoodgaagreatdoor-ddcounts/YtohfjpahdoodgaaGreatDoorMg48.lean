/- Contracts: the document's operators on lists of bits, one by one. -/
import Derived.Test.YtohfjpahdoodgaaGreatDoorMg47
namespace Go.Proofs.YtohfjpahdoodgaaGreatDoor.Ag
open Go.RowKit
set_option linter.unusedSimpArgs false
set_option linter.unusedVariables false

theorem rwords_low {w : World} {g g' c c' W x y k : Nat} {op : Int} (hop : op = 12 + (k : Int)) (hk : k ≤ 5) (ha : Rd w g W (bl W x)) (hb : Rd w g' W (bl W y)) (hW : W ≤ 128) (hx : x < 2 ^ W) (hy : y < 2 ^ W) :
    Calls Tryz.prog 49 #[.int .i64 op, .slice (some ⟨g, 0, none⟩) W c, .slice (some ⟨g', 0, none⟩) W c'] w (Tw W (lowop k W x y) w) := by
  have hk6 : k = 0 ∨ k = 1 ∨ k = 2 ∨ k = 3 ∨ k = 4 ∨ k = 5 := by omega
  rcases hk6 with rfl | rfl | rfl | rfl | rfl | rfl
  · exact rwords_bits (f := fun v u => v && u) (by omega) (fun v u wx => reach (by simp [hop]) wx) (bl_bits (by omega) hx hy _ (by simp)) ha hb hW
  · exact rwords_bits (f := fun v u => v || u) (by omega) (fun v u wx => reach (by simp [hop]) wx) (bl_bits (by omega) hx hy _ (by simp)) ha hb hW
  · exact rwords_bits (f := fun v u => v != u) (by omega) (fun v u wx => reach (by simp [hop]) wx) (bl_bits (by omega) hx hy _ (by simp)) ha hb hW
  · exact rwords_bits (f := fun v u => !(v && u)) (by omega) (fun v u wx => reach (by simp [hop]) wx) (bl_bits (by omega) hx hy _ (Or.inr (Or.inr (Or.inr (Or.inl ⟨rfl, rfl⟩))))) ha hb hW
  · exact rwords_bits (f := fun v u => !(v || u)) (by omega) (fun v u wx => reach (by simp [hop]) wx) (bl_bits (by omega) hx hy _ (Or.inr (Or.inr (Or.inr (Or.inr (Or.inl ⟨rfl, rfl⟩)))))) ha hb hW
  · exact rwords_bits (f := fun v u => v == u) (by omega) (fun v u wx => reach (by simp [hop]) wx) (bl_bits (by omega) hx hy _ (by simp)) ha hb hW

/-- A new list's way out. -/
theorem tw_of {W n m : Nat} {w w' : World} {r : Nat} (hB : Bs w' w.heap.size (.slice (some ⟨r, 0, none⟩) W W) (bl W n)) (he : bl W n = bl W m) : Rd w' r W (bl W m) := by
  rw [← he]; exact Bs.rd hB (bl_len W n).symm

set_option maxHeartbeats 800000 in
theorem rwords_add {w : World} {g g' c c' W x y : Nat} (ha : Rd w g W (bl W x)) (hb : Rd w g' W (bl W y)) (hW : W ≤ 128) :
    Calls Tryz.prog 49 #[.int .i64 18, .slice (some ⟨g, 0, none⟩) W c, .slice (some ⟨g', 0, none⟩) W c'] w (Tw W (lowop 6 W x y) w) := by
  have HA : Hid (Rd w g W (bl W x)) := ha
  have HB : Hid (Rd w g' W (bl W y)) := hb
  clear ha hb
  go_enter Tryz.func49, Tryz.ntmps49
  go_wp2_with fail
  refine (radd HA.out HB.out hW).mono ?_
  rintro e w1 ⟨r, rfl, hB, hb1⟩
  have HR : Hid (Rd w1 r W (bl W (lowop 6 W x y))) := tw_of hB (by simp only [lowop, bl_mod]; simp)
  clear hB HA HB
  go_wp2_with fail
  refine bodyPost_ret (v := .tuple #[.slice (some ⟨r, 0, none⟩) W W, .bool true]) (by simp [results, Tryz.results49, go_sem]) rfl ?_
  exact ⟨_, _, rfl, HR.out, hb1⟩

set_option maxHeartbeats 800000 in
theorem rwords_sub {w : World} {g g' c c' W x y : Nat} (ha : Rd w g W (bl W x)) (hb : Rd w g' W (bl W y)) (hW : W ≤ 128) (hy : y < 2 ^ W) :
    Calls Tryz.prog 49 #[.int .i64 19, .slice (some ⟨g, 0, none⟩) W c, .slice (some ⟨g', 0, none⟩) W c'] w (Tw W (lowop 7 W x y) w) := by
  have HA : Hid (Rd w g W (bl W x)) := ha
  have HB : Hid (Rd w g' W (bl W y)) := hb
  clear ha hb
  go_enter Tryz.func49, Tryz.ntmps49
  go_wp2_with fail
  refine (rsub HA.out HB.out hW hy).mono ?_
  rintro e w1 ⟨r, rfl, hB, hb1⟩
  have HR : Hid (Rd w1 r W (bl W (lowop 7 W x y))) := tw_of hB (by simp only [lowop, bl_mod, neg]; exact bl_congr (by rw [Nat.add_mod_mod]))
  clear hB HA HB
  go_wp2_with fail
  refine bodyPost_ret (v := .tuple #[.slice (some ⟨r, 0, none⟩) W W, .bool true]) (by simp [results, Tryz.results49, go_sem]) rfl ?_
  exact ⟨_, _, rfl, HR.out, hb1⟩

set_option maxHeartbeats 800000 in
theorem rwords_mul {w : World} {g g' c c' W x y : Nat} (ha : Rd w g W (bl W x)) (hb : Rd w g' W (bl W y)) (hW : W ≤ 128) (hy : y < 2 ^ W) :
    Calls Tryz.prog 49 #[.int .i64 20, .slice (some ⟨g, 0, none⟩) W c, .slice (some ⟨g', 0, none⟩) W c'] w (Tw W (lowop 8 W x y) w) := by
  have HA : Hid (Rd w g W (bl W x)) := ha
  have HB : Hid (Rd w g' W (bl W y)) := hb
  clear ha hb
  go_enter Tryz.func49, Tryz.ntmps49
  go_wp2_with fail
  refine (refmul_any HA.out HB.out hW hy).mono ?_
  rintro e w1 ⟨r, rfl, hB, hb1⟩
  have HR : Hid (Rd w1 r W (bl W (lowop 8 W x y))) := tw_of hB (by simp only [lowop, bl_mod])
  clear hB HA HB
  go_wp2_with fail
  refine bodyPost_ret (v := .tuple #[.slice (some ⟨r, 0, none⟩) W W, .bool true]) (by simp [results, Tryz.results49, go_sem]) rfl ?_
  exact ⟨_, _, rfl, HR.out, hb1⟩

set_option maxHeartbeats 800000 in
theorem rwords_udiv {w : World} {g g' c c' W x y : Nat} (ha : Rd w g W (bl W x)) (hb : Rd w g' W (bl W y)) (h1 : 1 ≤ W) (hW : W ≤ 128) (hx : x < 2 ^ W) (hy : y < 2 ^ W) :
    Calls Tryz.prog 49 #[.int .i64 21, .slice (some ⟨g, 0, none⟩) W c, .slice (some ⟨g', 0, none⟩) W c'] w (Tw W (udiv W x y) w) := by
  have HA : Hid (Rd w g W (bl W x)) := ha
  have HB : Hid (Rd w g' W (bl W y)) := hb
  clear ha hb
  go_enter Tryz.func49, Tryz.ntmps49
  go_wp2_with fail
  refine (rdiv HA.out HB.out h1 hW hx hy).mono ?_
  rintro e w1 ⟨q, r, cq, cr, rfl, hQ, -, hb1⟩
  have HR : Hid (Rd w1 q W (bl W (udiv W x y))) := hQ
  clear hQ HA HB
  go_wp2_with fail
  refine bodyPost_ret (v := .tuple #[.slice (some ⟨q, 0, none⟩) W cq, .bool true]) (by simp [results, Tryz.results49, go_sem]) rfl ?_
  exact ⟨_, _, rfl, HR.out, hb1⟩

set_option maxHeartbeats 800000 in
theorem rwords_urem {w : World} {g g' c c' W x y : Nat} (ha : Rd w g W (bl W x)) (hb : Rd w g' W (bl W y)) (h1 : 1 ≤ W) (hW : W ≤ 128) (hx : x < 2 ^ W) (hy : y < 2 ^ W) :
    Calls Tryz.prog 49 #[.int .i64 22, .slice (some ⟨g, 0, none⟩) W c, .slice (some ⟨g', 0, none⟩) W c'] w (Tw W (urem x y) w) := by
  have HA : Hid (Rd w g W (bl W x)) := ha
  have HB : Hid (Rd w g' W (bl W y)) := hb
  clear ha hb
  go_enter Tryz.func49, Tryz.ntmps49
  go_wp2_with fail
  refine (rdiv HA.out HB.out h1 hW hx hy).mono ?_
  rintro e w1 ⟨q, r, cq, cr, rfl, -, hQ, hb1⟩
  have HR : Hid (Rd w1 r W (bl W (urem x y))) := hQ
  clear hQ HA HB
  go_wp2_with fail
  refine bodyPost_ret (v := .tuple #[.slice (some ⟨r, 0, none⟩) W cr, .bool true]) (by simp [results, Tryz.results49, go_sem]) rfl ?_
  exact ⟨_, _, rfl, HR.out, hb1⟩

set_option maxHeartbeats 800000 in
theorem rwords_smod {w : World} {g g' c c' W x y : Nat} (ha : Rd w g W (bl W x)) (hb : Rd w g' W (bl W y)) (h1 : 1 ≤ W) (hW : W ≤ 128) (hx : x < 2 ^ W) (hy : y < 2 ^ W) :
    Calls Tryz.prog 49 #[.int .i64 25, .slice (some ⟨g, 0, none⟩) W c, .slice (some ⟨g', 0, none⟩) W c'] w (Tw W (smod W x y) w) := by
  have HA : Hid (Rd w g W (bl W x)) := ha
  have HB : Hid (Rd w g' W (bl W y)) := hb
  clear ha hb
  go_enter Tryz.func49, Tryz.ntmps49
  go_wp2_with fail
  refine (rsmod HA.out HB.out h1 hW hx hy).mono ?_
  rintro e w1 ⟨r, cr, rfl, hQ, hb1⟩
  have HR : Hid (Rd w1 r W (bl W (smod W x y))) := hQ
  clear hQ HA HB
  go_wp2_with fail
  refine bodyPost_ret (v := .tuple #[.slice (some ⟨r, 0, none⟩) W cr, .bool true]) (by simp [results, Tryz.results49, go_sem]) rfl ?_
  exact ⟨_, _, rfl, HR.out, hb1⟩

set_option maxHeartbeats 800000 in
theorem rwords_shl {w : World} {g g' c c' W x y : Nat} (ha : Rd w g W (bl W x)) (hb : Rd w g' W (bl W y)) (hW : W ≤ 128) (hy : y < 2 ^ W) :
    Calls Tryz.prog 49 #[.int .i64 26, .slice (some ⟨g, 0, none⟩) W c, .slice (some ⟨g', 0, none⟩) W c'] w (Tw W (sh 0 W x (dist y W)) w) := by
  have HA : Hid (Rd w g W (bl W x)) := ha
  have HB : Hid (Rd w g' W (bl W y)) := hb
  clear ha hb
  go_enter Tryz.func49, Tryz.ntmps49
  go_wp2_with fail
  refine (ramount HB.out hW hy).mono ?_
  rintro e w0 ⟨rfl, hb0⟩
  have HA0 : Hid (Rd w0 g W (bl W x)) := Rd.keep HA.out hb0
  clear HA HB
  go_wp2_with fail
  refine (rup HA0.out hW (Nat.min_le_right _ _)).mono ?_
  rintro e w1 ⟨r, rfl, hB, hb1⟩
  have HR : Hid (Rd w1 r W (bl W (sh 0 W x (dist y W)))) := tw_of hB (by simp only [sh, bl_mod, dist])
  clear hB HA0
  go_wp2_with fail
  refine bodyPost_ret (v := .tuple #[.slice (some ⟨r, 0, none⟩) W W, .bool true]) (by simp [results, Tryz.results49, go_sem]) rfl ?_
  exact ⟨_, _, rfl, HR.out, hb0.trans (hb1.mono hb0.size)⟩

set_option maxHeartbeats 800000 in
theorem rwords_lshr {w : World} {g g' c c' W x y : Nat} (ha : Rd w g W (bl W x)) (hb : Rd w g' W (bl W y)) (hW : W ≤ 128) (hx : x < 2 ^ W) (hy : y < 2 ^ W) :
    Calls Tryz.prog 49 #[.int .i64 27, .slice (some ⟨g, 0, none⟩) W c, .slice (some ⟨g', 0, none⟩) W c'] w (Tw W (sh 1 W x (dist y W)) w) := by
  have HA : Hid (Rd w g W (bl W x)) := ha
  have HB : Hid (Rd w g' W (bl W y)) := hb
  clear ha hb
  go_enter Tryz.func49, Tryz.ntmps49
  go_wp2_with fail
  refine (ramount HB.out hW hy).mono ?_
  rintro e w0 ⟨rfl, hb0⟩
  have HA0 : Hid (Rd w0 g W (bl W x)) := Rd.keep HA.out hb0
  clear HA HB
  go_wp2_with fail
  refine (rdown HA0.out hW (Nat.min_le_right _ _)).mono ?_
  rintro e w1 ⟨r, rfl, hB, hb1⟩
  have HR : Hid (Rd w1 r W (bl W (sh 1 W x (dist y W)))) := tw_of hB (by simp only [sh, dist, Nat.mod_eq_of_lt hx])
  clear hB HA0
  go_wp2_with fail
  refine bodyPost_ret (v := .tuple #[.slice (some ⟨r, 0, none⟩) W W, .bool true]) (by simp [results, Tryz.results49, go_sem]) rfl ?_
  exact ⟨_, _, rfl, HR.out, hb0.trans (hb1.mono hb0.size)⟩

set_option maxHeartbeats 800000 in
theorem rwords_ashr {w : World} {g g' c c' W x y : Nat} (ha : Rd w g W (bl W x)) (hb : Rd w g' W (bl W y)) (h1 : 1 ≤ W) (hW : W ≤ 128) (hx : x < 2 ^ W) (hy : y < 2 ^ W) :
    Calls Tryz.prog 49 #[.int .i64 28, .slice (some ⟨g, 0, none⟩) W c, .slice (some ⟨g', 0, none⟩) W c'] w (Tw W (sh 2 W x (dist y W)) w) := by
  have HA : Hid (Rd w g W (bl W x)) := ha
  have HB : Hid (Rd w g' W (bl W y)) := hb
  clear ha hb
  obtain ⟨s, hs⟩ : ∃ s, s = x.testBit (W - 1) := ⟨_, rfl⟩
  have HM : Hid (∀ wx, Rd wx g W (bl W x) → Calls Tryz.prog 79 #[.slice (some ⟨g, 0, none⟩) W c] wx fun e w' => e = .returned (.bool s) ∧ Below wx.heap.size wx w') := fun wx h => by rw [hs]; exact rminus h h1 hW
  have HS : Hid (sh 2 W x (dist y W) = if s then 2 ^ W - 1 - (2 ^ W - 1 - x) / 2 ^ min y W else x / 2 ^ min y W) := by unfold Hid; rw [hs]; rfl
  clear hs
  go_enter Tryz.func49, Tryz.ntmps49
  go_wp2_with fail
  refine (ramount HB.out hW hy).mono ?_
  rintro e w0 ⟨rfl, hb0⟩
  have HA0 : Hid (Rd w0 g W (bl W x)) := Rd.keep HA.out hb0
  clear HA HB
  go_wp2_with fail
  refine (HM.out _ HA0.out).mono ?_
  rintro e w2 ⟨rfl, hb2⟩
  have HA2 : Hid (Rd w2 g W (bl W x)) := Rd.keep HA0.out hb2
  have hbl2 : Below w.heap.size w w2 := hb0.trans (hb2.mono hb0.size)
  clear HA0 HM hb0 hb2
  cases s
  · go_wp2_with fail
    refine (rdown HA2.out hW (Nat.min_le_right _ _)).mono ?_
    rintro e w1 ⟨r, rfl, hB, hb1⟩
    have HR : Hid (Rd w1 r W (bl W (sh 2 W x (dist y W)))) := tw_of hB (by rw [HS.out]; simp [Nat.mod_eq_of_lt hx])
    clear hB HA2 HS
    go_wp2_with fail
    refine bodyPost_ret (v := .tuple #[.slice (some ⟨r, 0, none⟩) W W, .bool true]) (by simp [results, Tryz.results49, go_sem]) rfl ?_
    exact ⟨_, _, rfl, HR.out, hbl2.trans (hb1.mono hbl2.size)⟩
  · go_wp2_with fail
    refine (rdown1 HA2.out hW (Nat.min_le_right _ _) hx).mono ?_
    rintro e w1 ⟨r, rfl, hB, hb1⟩
    have HR : Hid (Rd w1 r W (bl W (sh 2 W x (dist y W)))) := tw_of hB (by rw [HS.out]; simp)
    clear hB HA2 HS
    go_wp2_with fail
    refine bodyPost_ret (v := .tuple #[.slice (some ⟨r, 0, none⟩) W W, .bool true]) (by simp [results, Tryz.results49, go_sem]) rfl ?_
    exact ⟨_, _, rfl, HR.out, hbl2.trans (hb1.mono hbl2.size)⟩
end Go.Proofs.YtohfjpahdoodgaaGreatDoor.Ag

/- Contracts: the document's signed quotient and rest; operators that it doesn't know. -/
namespace Go.Proofs.YtohfjpahdoodgaaGreatDoor.Ag
open Go.RowKit
set_option linter.unusedSimpArgs false
set_option linter.unusedVariables false

set_option maxRecDepth 20000 in
set_option maxHeartbeats 1600000 in
theorem rwords_sdiv {w : World} {g g' c c' W x y : Nat} (ha : Rd w g W (bl W x)) (hb : Rd w g' W (bl W y)) (h1 : 1 ≤ W) (hW : W ≤ 128) (hx : x < 2 ^ W) (hy : y < 2 ^ W) (hc : udiv W (wsign W x x) (wsign W y y) < 2 ^ W) :
    Calls Tryz.prog 49 #[.int .i64 23, .slice (some ⟨g, 0, none⟩) W c, .slice (some ⟨g', 0, none⟩) W c'] w (Tw W (sdiv W x y) w) := by
  obtain ⟨sa, hsa⟩ : ∃ sa, sa = x.testBit (W - 1) := ⟨_, rfl⟩
  obtain ⟨sb, hsb⟩ : ∃ sb, sb = y.testBit (W - 1) := ⟨_, rfl⟩
  have HS : Hid (sdiv W x y = if (sa != sb) = true then neg W (udiv W (wsign W x x) (wsign W y y)) else udiv W (wsign W x x) (wsign W y y)) := by
    unfold Hid sdiv; rw [← hsa, ← hsb]
  have HMA : Hid (∀ wx, Rd wx g W (bl W x) → Calls Tryz.prog 79 #[.slice (some ⟨g, 0, none⟩) W c] wx fun e w' => e = .returned (.bool sa) ∧ Below wx.heap.size wx w') := fun wx h => by rw [hsa]; exact rminus h h1 hW
  have HMB : Hid (∀ wx, Rd wx g' W (bl W y) → Calls Tryz.prog 79 #[.slice (some ⟨g', 0, none⟩) W c'] wx fun e w' => e = .returned (.bool sb) ∧ Below wx.heap.size wx w') := fun wx h => by rw [hsb]; exact rminus h h1 hW
  have HA : Hid (Rd w g W (bl W x)) := ha
  have HB : Hid (Rd w g' W (bl W y)) := hb
  obtain ⟨U, hU⟩ : ∃ U, U = udiv W (wsign W x x) (wsign W y y) := ⟨_, rfl⟩
  rw [← hU] at hc HS
  clear ha hb hsa hsb
  go_enter Tryz.func49, Tryz.ntmps49
  go_wp2_with fail
  refine (rsize HA.out h1 hW hx).mono ?_
  rintro e w1 ⟨r1, c1, rfl, hR1, hb1⟩
  have HR1 : Hid (Rd w1 r1 W (bl W (wsign W x x))) := hR1
  have HA1 : Hid (Rd w1 g W (bl W x)) := Rd.keep HA.out hb1
  have HB1 : Hid (Rd w1 g' W (bl W y)) := Rd.keep HB.out hb1
  clear hR1 HA HB
  go_wp2_with fail
  refine (rsize HB1.out h1 hW hy).mono ?_
  rintro e w2 ⟨r2, c2, rfl, hR2, hb2⟩
  have HR2 : Hid (Rd w2 r2 W (bl W (wsign W y y))) := hR2
  have HR12 : Hid (Rd w2 r1 W (bl W (wsign W x x))) := Rd.keep HR1.out hb2
  have HA2 : Hid (Rd w2 g W (bl W x)) := Rd.keep HA1.out hb2
  have HB2 : Hid (Rd w2 g' W (bl W y)) := Rd.keep HB1.out hb2
  have hbl2 : Below w.heap.size w w2 := hb1.trans (hb2.mono hb1.size)
  clear hR2 HA1 HB1 HR1 hb1 hb2
  go_wp2_with fail
  refine (rdiv HR12.out HR2.out h1 hW (wsign_lt hx) (wsign_lt hy)).mono ?_
  rintro e w3 ⟨q3, r3, cq, cr, rfl, hQ3, hR3, hb3⟩
  have HR3 : Hid (Rd w3 q3 W (bl W U)) := by unfold Hid; rw [hU]; exact hQ3
  have HA3 : Hid (Rd w3 g W (bl W x)) := Rd.keep HA2.out hb3
  have HB3 : Hid (Rd w3 g' W (bl W y)) := Rd.keep HB2.out hb3
  have hbl3 : Below w.heap.size w w3 := hbl2.trans (hb3.mono hbl2.size)
  clear hQ3 hR3 HA2 HB2 HR12 HR2 hbl2 hb3 hU
  go_wp2_with fail
  refine (HMA.out _ HA3.out).mono ?_
  rintro e w4 ⟨rfl, hb4⟩
  have HR4 : Hid (Rd w4 q3 W (bl W U)) := Rd.keep HR3.out hb4
  have HB4 : Hid (Rd w4 g' W (bl W y)) := Rd.keep HB3.out hb4
  have hbl4 : Below w.heap.size w w4 := hbl3.trans (hb4.mono hbl3.size)
  clear HR3 HA3 HB3 hbl3 hb4
  go_wp2_with fail
  refine (HMB.out _ HB4.out).mono ?_
  rintro e w5 ⟨rfl, hb5⟩
  have HR5 : Hid (Rd w5 q3 W (bl W U)) := Rd.keep HR4.out hb5
  have hbl5 : Below w.heap.size w w5 := hbl4.trans (hb5.mono hbl4.size)
  clear HR4 HB4 hbl4 hb5
  cases sa <;> cases sb
  · have HE : Hid (sdiv W x y = U) := by unfold Hid; rw [HS.out]; rfl
    clear HS
    go_wp2_with fail
    refine bodyPost_ret (v := .tuple #[.slice (some ⟨q3, 0, none⟩) W cq, .bool true]) (by simp [results, Tryz.results49, go_sem]) rfl ?_
    exact ⟨_, _, rfl, by rw [HE.out]; exact HR5.out, hbl5⟩
  · have HE : Hid (sdiv W x y = neg W U) := by unfold Hid; rw [HS.out]; rfl
    clear HS
    go_wp2_with fail
    refine (refneg_any HR5.out hW hc).mono ?_
    rintro e w6 ⟨r6, rfl, hB6, hb6⟩
    have HR6 : Hid (Rd w6 r6 W (bl W (sdiv W x y))) := by unfold Hid; rw [HE.out]; exact Bs.rd hB6 (bl_len W _).symm
    clear hB6 HE
    go_wp2_with fail
    refine bodyPost_ret (v := .tuple #[.slice (some ⟨r6, 0, none⟩) W W, .bool true]) (by simp [results, Tryz.results49, go_sem]) rfl ?_
    exact ⟨_, _, rfl, HR6.out, hbl5.trans (hb6.mono hbl5.size)⟩
  · have HE : Hid (sdiv W x y = neg W U) := by unfold Hid; rw [HS.out]; rfl
    clear HS
    go_wp2_with fail
    refine (refneg_any HR5.out hW hc).mono ?_
    rintro e w6 ⟨r6, rfl, hB6, hb6⟩
    have HR6 : Hid (Rd w6 r6 W (bl W (sdiv W x y))) := by unfold Hid; rw [HE.out]; exact Bs.rd hB6 (bl_len W _).symm
    clear hB6 HE
    go_wp2_with fail
    refine bodyPost_ret (v := .tuple #[.slice (some ⟨r6, 0, none⟩) W W, .bool true]) (by simp [results, Tryz.results49, go_sem]) rfl ?_
    exact ⟨_, _, rfl, HR6.out, hbl5.trans (hb6.mono hbl5.size)⟩
  · have HE : Hid (sdiv W x y = U) := by unfold Hid; rw [HS.out]; rfl
    clear HS
    go_wp2_with fail
    refine bodyPost_ret (v := .tuple #[.slice (some ⟨q3, 0, none⟩) W cq, .bool true]) (by simp [results, Tryz.results49, go_sem]) rfl ?_
    exact ⟨_, _, rfl, by rw [HE.out]; exact HR5.out, hbl5⟩

set_option maxRecDepth 20000 in
set_option maxHeartbeats 1600000 in
theorem rwords_srem {w : World} {g g' c c' W x y : Nat} (ha : Rd w g W (bl W x)) (hb : Rd w g' W (bl W y)) (h1 : 1 ≤ W) (hW : W ≤ 128) (hx : x < 2 ^ W) (hy : y < 2 ^ W) (hc : urem (wsign W x x) (wsign W y y) < 2 ^ W) :
    Calls Tryz.prog 49 #[.int .i64 24, .slice (some ⟨g, 0, none⟩) W c, .slice (some ⟨g', 0, none⟩) W c'] w (Tw W (srem W x y) w) := by
  obtain ⟨sa, hsa⟩ : ∃ sa, sa = x.testBit (W - 1) := ⟨_, rfl⟩
  obtain ⟨sb, hsb⟩ : ∃ sb, sb = y.testBit (W - 1) := ⟨_, rfl⟩
  have HS : Hid (srem W x y = if sa = true then neg W (urem (wsign W x x) (wsign W y y)) else urem (wsign W x x) (wsign W y y)) := by
    unfold Hid srem; rw [wsign, ← hsa]
  have HMA : Hid (∀ wx, Rd wx g W (bl W x) → Calls Tryz.prog 79 #[.slice (some ⟨g, 0, none⟩) W c] wx fun e w' => e = .returned (.bool sa) ∧ Below wx.heap.size wx w') := fun wx h => by rw [hsa]; exact rminus h h1 hW
  have HMB : Hid (∀ wx, Rd wx g' W (bl W y) → Calls Tryz.prog 79 #[.slice (some ⟨g', 0, none⟩) W c'] wx fun e w' => e = .returned (.bool sb) ∧ Below wx.heap.size wx w') := fun wx h => by rw [hsb]; exact rminus h h1 hW
  have HA : Hid (Rd w g W (bl W x)) := ha
  have HB : Hid (Rd w g' W (bl W y)) := hb
  obtain ⟨U, hU⟩ : ∃ U, U = urem (wsign W x x) (wsign W y y) := ⟨_, rfl⟩
  rw [← hU] at hc HS
  clear ha hb hsa hsb
  go_enter Tryz.func49, Tryz.ntmps49
  go_wp2_with fail
  refine (rsize HA.out h1 hW hx).mono ?_
  rintro e w1 ⟨r1, c1, rfl, hR1, hb1⟩
  have HR1 : Hid (Rd w1 r1 W (bl W (wsign W x x))) := hR1
  have HA1 : Hid (Rd w1 g W (bl W x)) := Rd.keep HA.out hb1
  have HB1 : Hid (Rd w1 g' W (bl W y)) := Rd.keep HB.out hb1
  clear hR1 HA HB
  go_wp2_with fail
  refine (rsize HB1.out h1 hW hy).mono ?_
  rintro e w2 ⟨r2, c2, rfl, hR2, hb2⟩
  have HR2 : Hid (Rd w2 r2 W (bl W (wsign W y y))) := hR2
  have HR12 : Hid (Rd w2 r1 W (bl W (wsign W x x))) := Rd.keep HR1.out hb2
  have HA2 : Hid (Rd w2 g W (bl W x)) := Rd.keep HA1.out hb2
  have HB2 : Hid (Rd w2 g' W (bl W y)) := Rd.keep HB1.out hb2
  have hbl2 : Below w.heap.size w w2 := hb1.trans (hb2.mono hb1.size)
  clear hR2 HA1 HB1 HR1 hb1 hb2
  go_wp2_with fail
  refine (rdiv HR12.out HR2.out h1 hW (wsign_lt hx) (wsign_lt hy)).mono ?_
  rintro e w3 ⟨q3, r3, cq, cr, rfl, hQ3, hR3, hb3⟩
  have HR3 : Hid (Rd w3 r3 W (bl W U)) := by unfold Hid; rw [hU]; exact hR3
  have HA3 : Hid (Rd w3 g W (bl W x)) := Rd.keep HA2.out hb3
  have HB3 : Hid (Rd w3 g' W (bl W y)) := Rd.keep HB2.out hb3
  have hbl3 : Below w.heap.size w w3 := hbl2.trans (hb3.mono hbl2.size)
  clear hQ3 hR3 HA2 HB2 HR12 HR2 hbl2 hb3 hU
  go_wp2_with fail
  refine (HMA.out _ HA3.out).mono ?_
  rintro e w4 ⟨rfl, hb4⟩
  have HR4 : Hid (Rd w4 r3 W (bl W U)) := Rd.keep HR3.out hb4
  have HB4 : Hid (Rd w4 g' W (bl W y)) := Rd.keep HB3.out hb4
  have hbl4 : Below w.heap.size w w4 := hbl3.trans (hb4.mono hbl3.size)
  clear HR3 HA3 HB3 hbl3 hb4
  cases sa
  · have HE : Hid (srem W x y = U) := by unfold Hid; rw [HS.out]; rfl
    clear HS
    go_wp2_with fail
    refine bodyPost_ret (v := .tuple #[.slice (some ⟨r3, 0, none⟩) W cr, .bool true]) (by simp [results, Tryz.results49, go_sem]) rfl ?_
    exact ⟨_, _, rfl, by rw [HE.out]; exact HR4.out, hbl4⟩
  · have HE : Hid (srem W x y = neg W U) := by unfold Hid; rw [HS.out]; rfl
    clear HS
    go_wp2_with fail
    refine (refneg_any HR4.out hW hc).mono ?_
    rintro e w6 ⟨r6, rfl, hB6, hb6⟩
    have HR6 : Hid (Rd w6 r6 W (bl W (srem W x y))) := by unfold Hid; rw [HE.out]; exact Bs.rd hB6 (bl_len W _).symm
    clear hB6 HE
    go_wp2_with fail
    refine bodyPost_ret (v := .tuple #[.slice (some ⟨r6, 0, none⟩) W W, .bool true]) (by simp [results, Tryz.results49, go_sem]) rfl ?_
    exact ⟨_, _, rfl, HR6.out, hbl4.trans (hb6.mono hbl4.size)⟩

set_option maxRecDepth 20000 in
set_option maxHeartbeats 1600000 in
theorem rwords_none {w : World} {op : Int} {v u : Value} (h : op < 12 ∨ 28 < op) :
    Calls Tryz.prog 49 #[.int .i64 op, v, u] w fun e w' => e = .returned (.tuple #[.slice none 0 0, .bool false]) ∧ Below w.heap.size w w' := by
  have q12 : (op == 12) = false := by simp; omega
  have q13 : (op == 13) = false := by simp; omega
  have q14 : (op == 14) = false := by simp; omega
  have q15 : (op == 15) = false := by simp; omega
  have q16 : (op == 16) = false := by simp; omega
  have q17 : (op == 17) = false := by simp; omega
  have q18 : (op == 18) = false := by simp; omega
  have q19 : (op == 19) = false := by simp; omega
  have q20 : (op == 20) = false := by simp; omega
  have q21 : (op == 21) = false := by simp; omega
  have q22 : (op == 22) = false := by simp; omega
  have q23 : (op == 23) = false := by simp; omega
  have q24 : (op == 24) = false := by simp; omega
  have q25 : (op == 25) = false := by simp; omega
  have q26 : (op == 26) = false := by simp; omega
  have q27 : (op == 27) = false := by simp; omega
  have q28 : (op == 28) = false := by simp; omega
  clear h
  go_enter Tryz.func49, Tryz.ntmps49
  go_wp2_with fail
  refine bodyPost_ret (v := .tuple #[.slice none 0 0, .bool false]) (by simp [results, Tryz.results49, go_sem]) rfl ?_
  exact ⟨rfl, Below.refl _ _⟩
end Go.Proofs.YtohfjpahdoodgaaGreatDoor.Ag
