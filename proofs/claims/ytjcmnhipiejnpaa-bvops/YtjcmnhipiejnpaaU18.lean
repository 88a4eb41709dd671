/- Contracts: the document's operators on lists of bits, one by one. -/
import Derived.Test.YtjcmnhipiejnpaaU17
namespace Go.Proofs.Ytjcmnhipiejnpaa
open Go.RowKit
set_option linter.unusedSimpArgs false
set_option linter.unusedVariables false

theorem rwords_low {w : World} {g g' c c' W x y k : Nat} {op : Int} (hop : op = 12 + (k : Int)) (hk : k ≤ 5) (ha : Rd w g W (bl W x)) (hb : Rd w g' W (bl W y)) (hW : W ≤ 128) (hx : x < 2 ^ W) (hy : y < 2 ^ W) :
    Calls Try.prog 71 #[.int .i64 op, .slice (some ⟨g, 0, none⟩) W c, .slice (some ⟨g', 0, none⟩) W c'] w (Tw W (lowop k W x y) w) := by
  have hk6 : k = 0 ∨ k = 1 ∨ k = 2 ∨ k = 3 ∨ k = 4 ∨ k = 5 := by omega
  rcases hk6 with rfl | rfl | rfl | rfl | rfl | rfl
  · exact rwords_bits (f := fun v u => v && u) (by omega) (fun v u wx => reach (by simp [hop]) wx) (bl_bits (by omega) hx hy _ (by simp)) ha hb hW
  · exact rwords_bits (f := fun v u => v || u) (by omega) (fun v u wx => reach (by simp [hop]) wx) (bl_bits (by omega) hx hy _ (by simp)) ha hb hW
  · exact rwords_bits (f := fun v u => v != u) (by omega) (fun v u wx => reach (by simp [hop]) wx) (bl_bits (by omega) hx hy _ (by simp)) ha hb hW
  · exact rwords_bits (f := fun v u => !(v && u)) (by omega) (fun v u wx => reach (by simp [hop]) wx) (bl_bits (by omega) hx hy _ (Or.inr (Or.inr (Or.inr (Or.inl ⟨rfl, rfl⟩))))) ha hb hW
  · exact rwords_bits (f := fun v u => !(v || u)) (by omega) (fun v u wx => reach (by simp [hop]) wx) (bl_bits (by omega) hx hy _ (Or.inr (Or.inr (Or.inr (Or.inr (Or.inl ⟨rfl, rfl⟩)))))) ha hb hW
  · exact rwords_bits (f := fun v u => v == u) (by omega) (fun v u wx => reach (by simp [hop]) wx) (bl_bits (by omega) hx hy _ (by simp)) ha hb hW

/-- A new list's way out. -/
theorem tw_of {W n m : Nat} {w w' : World} {r : Nat} (hB : Bs w' w.heap.size (.slice (some ⟨r, 0, none⟩) W W) (bl W n)) (he : bl W n = bl W m) : Rd w' r W (bl W m) := by
  rw [← he]; exact Bs.rd hB (bl_len W n).symm

set_option maxHeartbeats 800000 in
theorem rwords_add {w : World} {g g' c c' W x y : Nat} (ha : Rd w g W (bl W x)) (hb : Rd w g' W (bl W y)) (hW : W ≤ 128) :
    Calls Try.prog 71 #[.int .i64 18, .slice (some ⟨g, 0, none⟩) W c, .slice (some ⟨g', 0, none⟩) W c'] w (Tw W (lowop 6 W x y) w) := by
  have HA : Hid (Rd w g W (bl W x)) := ha
  have HB : Hid (Rd w g' W (bl W y)) := hb
  clear ha hb
  go_enter Try.func71, Try.ntmps71
  go_wp2_with fail
  refine (radd HA.out HB.out hW).mono ?_
  rintro e w1 ⟨r, rfl, hB, hb1⟩
  have HR : Hid (Rd w1 r W (bl W (lowop 6 W x y))) := tw_of hB (by simp only [lowop, bl_mod]; simp)
  clear hB HA HB
  go_wp2_with fail
  refine bodyPost_ret (v := .tuple #[.slice (some ⟨r, 0, none⟩) W W, .bool true]) (by simp [results, Try.results71, go_sem]) rfl ?_
  exact ⟨_, _, rfl, HR.out, hb1⟩

set_option maxHeartbeats 800000 in
theorem rwords_sub {w : World} {g g' c c' W x y : Nat} (ha : Rd w g W (bl W x)) (hb : Rd w g' W (bl W y)) (hW : W ≤ 128) (hy : y < 2 ^ W) :
    Calls Try.prog 71 #[.int .i64 19, .slice (some ⟨g, 0, none⟩) W c, .slice (some ⟨g', 0, none⟩) W c'] w (Tw W (lowop 7 W x y) w) := by
  have HA : Hid (Rd w g W (bl W x)) := ha
  have HB : Hid (Rd w g' W (bl W y)) := hb
  clear ha hb
  go_enter Try.func71, Try.ntmps71
  go_wp2_with fail
  refine (rsub HA.out HB.out hW hy).mono ?_
  rintro e w1 ⟨r, rfl, hB, hb1⟩
  have HR : Hid (Rd w1 r W (bl W (lowop 7 W x y))) := tw_of hB (by simp only [lowop, bl_mod, neg]; exact bl_congr (by rw [Nat.add_mod_mod]))
  clear hB HA HB
  go_wp2_with fail
  refine bodyPost_ret (v := .tuple #[.slice (some ⟨r, 0, none⟩) W W, .bool true]) (by simp [results, Try.results71, go_sem]) rfl ?_
  exact ⟨_, _, rfl, HR.out, hb1⟩

set_option maxHeartbeats 800000 in
theorem rwords_mul {w : World} {g g' c c' W x y : Nat} (ha : Rd w g W (bl W x)) (hb : Rd w g' W (bl W y)) (hW : W ≤ 128) (hy : y < 2 ^ W) :
    Calls Try.prog 71 #[.int .i64 20, .slice (some ⟨g, 0, none⟩) W c, .slice (some ⟨g', 0, none⟩) W c'] w (Tw W (lowop 8 W x y) w) := by
  have HA : Hid (Rd w g W (bl W x)) := ha
  have HB : Hid (Rd w g' W (bl W y)) := hb
  clear ha hb
  go_enter Try.func71, Try.ntmps71
  go_wp2_with fail
  refine (refmul_any HA.out HB.out hW hy).mono ?_
  rintro e w1 ⟨r, rfl, hB, hb1⟩
  have HR : Hid (Rd w1 r W (bl W (lowop 8 W x y))) := tw_of hB (by simp only [lowop, bl_mod])
  clear hB HA HB
  go_wp2_with fail
  refine bodyPost_ret (v := .tuple #[.slice (some ⟨r, 0, none⟩) W W, .bool true]) (by simp [results, Try.results71, go_sem]) rfl ?_
  exact ⟨_, _, rfl, HR.out, hb1⟩

set_option maxHeartbeats 800000 in
theorem rwords_udiv {w : World} {g g' c c' W x y : Nat} (ha : Rd w g W (bl W x)) (hb : Rd w g' W (bl W y)) (h1 : 1 ≤ W) (hW : W ≤ 128) (hx : x < 2 ^ W) (hy : y < 2 ^ W) :
    Calls Try.prog 71 #[.int .i64 21, .slice (some ⟨g, 0, none⟩) W c, .slice (some ⟨g', 0, none⟩) W c'] w (Tw W (udiv W x y) w) := by
  have HA : Hid (Rd w g W (bl W x)) := ha
  have HB : Hid (Rd w g' W (bl W y)) := hb
  clear ha hb
  go_enter Try.func71, Try.ntmps71
  go_wp2_with fail
  refine (rdiv HA.out HB.out h1 hW hx hy).mono ?_
  rintro e w1 ⟨q, r, cq, cr, rfl, hQ, -, hb1⟩
  have HR : Hid (Rd w1 q W (bl W (udiv W x y))) := hQ
  clear hQ HA HB
  go_wp2_with fail
  refine bodyPost_ret (v := .tuple #[.slice (some ⟨q, 0, none⟩) W cq, .bool true]) (by simp [results, Try.results71, go_sem]) rfl ?_
  exact ⟨_, _, rfl, HR.out, hb1⟩

set_option maxHeartbeats 800000 in
theorem rwords_urem {w : World} {g g' c c' W x y : Nat} (ha : Rd w g W (bl W x)) (hb : Rd w g' W (bl W y)) (h1 : 1 ≤ W) (hW : W ≤ 128) (hx : x < 2 ^ W) (hy : y < 2 ^ W) :
    Calls Try.prog 71 #[.int .i64 22, .slice (some ⟨g, 0, none⟩) W c, .slice (some ⟨g', 0, none⟩) W c'] w (Tw W (urem x y) w) := by
  have HA : Hid (Rd w g W (bl W x)) := ha
  have HB : Hid (Rd w g' W (bl W y)) := hb
  clear ha hb
  go_enter Try.func71, Try.ntmps71
  go_wp2_with fail
  refine (rdiv HA.out HB.out h1 hW hx hy).mono ?_
  rintro e w1 ⟨q, r, cq, cr, rfl, -, hQ, hb1⟩
  have HR : Hid (Rd w1 r W (bl W (urem x y))) := hQ
  clear hQ HA HB
  go_wp2_with fail
  refine bodyPost_ret (v := .tuple #[.slice (some ⟨r, 0, none⟩) W cr, .bool true]) (by simp [results, Try.results71, go_sem]) rfl ?_
  exact ⟨_, _, rfl, HR.out, hb1⟩

set_option maxHeartbeats 800000 in
theorem rwords_smod {w : World} {g g' c c' W x y : Nat} (ha : Rd w g W (bl W x)) (hb : Rd w g' W (bl W y)) (h1 : 1 ≤ W) (hW : W ≤ 128) (hx : x < 2 ^ W) (hy : y < 2 ^ W) :
    Calls Try.prog 71 #[.int .i64 25, .slice (some ⟨g, 0, none⟩) W c, .slice (some ⟨g', 0, none⟩) W c'] w (Tw W (smod W x y) w) := by
  have HA : Hid (Rd w g W (bl W x)) := ha
  have HB : Hid (Rd w g' W (bl W y)) := hb
  clear ha hb
  go_enter Try.func71, Try.ntmps71
  go_wp2_with fail
  refine (rsmod HA.out HB.out h1 hW hx hy).mono ?_
  rintro e w1 ⟨r, cr, rfl, hQ, hb1⟩
  have HR : Hid (Rd w1 r W (bl W (smod W x y))) := hQ
  clear hQ HA HB
  go_wp2_with fail
  refine bodyPost_ret (v := .tuple #[.slice (some ⟨r, 0, none⟩) W cr, .bool true]) (by simp [results, Try.results71, go_sem]) rfl ?_
  exact ⟨_, _, rfl, HR.out, hb1⟩

set_option maxHeartbeats 800000 in
theorem rwords_shl {w : World} {g g' c c' W x y : Nat} (ha : Rd w g W (bl W x)) (hb : Rd w g' W (bl W y)) (hW : W ≤ 128) (hy : y < 2 ^ W) :
    Calls Try.prog 71 #[.int .i64 26, .slice (some ⟨g, 0, none⟩) W c, .slice (some ⟨g', 0, none⟩) W c'] w (Tw W (sh 0 W x (dist y W)) w) := by
  have HA : Hid (Rd w g W (bl W x)) := ha
  have HB : Hid (Rd w g' W (bl W y)) := hb
  clear ha hb
  go_enter Try.func71, Try.ntmps71
  go_wp2_with fail
  refine (ramount HB.out hW hy).mono ?_
  rintro e w0 ⟨rfl, hb0⟩
  have HA0 : Hid (Rd w0 g W (bl W x)) := Rd.keep HA.out hb0
  clear HA HB
  go_wp2_with fail
  refine (rup HA0.out hW (Nat.min_le_right _ _)).mono ?_
  rintro e w1 ⟨r, rfl, hB, hb1⟩
  have HR : Hid (Rd w1 r W (bl W (sh 0 W x (dist y W)))) := tw_of hB (by simp only [sh, bl_mod, dist])
  clear hB HA0
  go_wp2_with fail
  refine bodyPost_ret (v := .tuple #[.slice (some ⟨r, 0, none⟩) W W, .bool true]) (by simp [results, Try.results71, go_sem]) rfl ?_
  exact ⟨_, _, rfl, HR.out, hb0.trans (hb1.mono hb0.size)⟩

set_option maxHeartbeats 800000 in
theorem rwords_lshr {w : World} {g g' c c' W x y : Nat} (ha : Rd w g W (bl W x)) (hb : Rd w g' W (bl W y)) (hW : W ≤ 128) (hx : x < 2 ^ W) (hy : y < 2 ^ W) :
    Calls Try.prog 71 #[.int .i64 27, .slice (some ⟨g, 0, none⟩) W c, .slice (some ⟨g', 0, none⟩) W c'] w (Tw W (sh 1 W x (dist y W)) w) := by
  have HA : Hid (Rd w g W (bl W x)) := ha
  have HB : Hid (Rd w g' W (bl W y)) := hb
  clear ha hb
  go_enter Try.func71, Try.ntmps71
  go_wp2_with fail
  refine (ramount HB.out hW hy).mono ?_
  rintro e w0 ⟨rfl, hb0⟩
  have HA0 : Hid (Rd w0 g W (bl W x)) := Rd.keep HA.out hb0
  clear HA HB
  go_wp2_with fail
  refine (rdown HA0.out hW (Nat.min_le_right _ _)).mono ?_
  rintro e w1 ⟨r, rfl, hB, hb1⟩
  have HR : Hid (Rd w1 r W (bl W (sh 1 W x (dist y W)))) := tw_of hB (by simp only [sh, dist, Nat.mod_eq_of_lt hx])
  clear hB HA0
  go_wp2_with fail
  refine bodyPost_ret (v := .tuple #[.slice (some ⟨r, 0, none⟩) W W, .bool true]) (by simp [results, Try.results71, go_sem]) rfl ?_
  exact ⟨_, _, rfl, HR.out, hb0.trans (hb1.mono hb0.size)⟩

set_option maxHeartbeats 800000 in
theorem rwords_ashr {w : World} {g g' c c' W x y : Nat} (ha : Rd w g W (bl W x)) (hb : Rd w g' W (bl W y)) (h1 : 1 ≤ W) (hW : W ≤ 128) (hx : x < 2 ^ W) (hy : y < 2 ^ W) :
    Calls Try.prog 71 #[.int .i64 28, .slice (some ⟨g, 0, none⟩) W c, .slice (some ⟨g', 0, none⟩) W c'] w (Tw W (sh 2 W x (dist y W)) w) := by
  have HA : Hid (Rd w g W (bl W x)) := ha
  have HB : Hid (Rd w g' W (bl W y)) := hb
  clear ha hb
  obtain ⟨s, hs⟩ : ∃ s, s = x.testBit (W - 1) := ⟨_, rfl⟩
  have HM : Hid (∀ wx, Rd wx g W (bl W x) → Calls Try.prog 54 #[.slice (some ⟨g, 0, none⟩) W c] wx fun e w' => e = .returned (.bool s) ∧ Below wx.heap.size wx w') := fun wx h => by rw [hs]; exact rminus h h1 hW
  have HS : Hid (sh 2 W x (dist y W) = if s then 2 ^ W - 1 - (2 ^ W - 1 - x) / 2 ^ min y W else x / 2 ^ min y W) := by unfold Hid; rw [hs]; rfl
  clear hs
  go_enter Try.func71, Try.ntmps71
  go_wp2_with fail
  refine (ramount HB.out hW hy).mono ?_
  rintro e w0 ⟨rfl, hb0⟩
  have HA0 : Hid (Rd w0 g W (bl W x)) := Rd.keep HA.out hb0
  clear HA HB
  go_wp2_with fail
  refine (HM.out _ HA0.out).mono ?_
  rintro e w2 ⟨rfl, hb2⟩
  have HA2 : Hid (Rd w2 g W (bl W x)) := Rd.keep HA0.out hb2
  have hbl2 : Below w.heap.size w w2 := hb0.trans (hb2.mono hb0.size)
  clear HA0 HM hb0 hb2
  cases s
  · go_wp2_with fail
    refine (rdown HA2.out hW (Nat.min_le_right _ _)).mono ?_
    rintro e w1 ⟨r, rfl, hB, hb1⟩
    have HR : Hid (Rd w1 r W (bl W (sh 2 W x (dist y W)))) := tw_of hB (by rw [HS.out]; simp [Nat.mod_eq_of_lt hx])
    clear hB HA2 HS
    go_wp2_with fail
    refine bodyPost_ret (v := .tuple #[.slice (some ⟨r, 0, none⟩) W W, .bool true]) (by simp [results, Try.results71, go_sem]) rfl ?_
    exact ⟨_, _, rfl, HR.out, hbl2.trans (hb1.mono hbl2.size)⟩
  · go_wp2_with fail
    refine (rdown1 HA2.out hW (Nat.min_le_right _ _) hx).mono ?_
    rintro e w1 ⟨r, rfl, hB, hb1⟩
    have HR : Hid (Rd w1 r W (bl W (sh 2 W x (dist y W)))) := tw_of hB (by rw [HS.out]; simp)
    clear hB HA2 HS
    go_wp2_with fail
    refine bodyPost_ret (v := .tuple #[.slice (some ⟨r, 0, none⟩) W W, .bool true]) (by simp [results, Try.results71, go_sem]) rfl ?_
    exact ⟨_, _, rfl, HR.out, hbl2.trans (hb1.mono hbl2.size)⟩
end Go.Proofs.Ytjcmnhipiejnpaa
