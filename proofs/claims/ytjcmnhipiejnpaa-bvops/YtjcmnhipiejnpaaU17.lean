/- Contracts: the document's operators that answer a word of the same width. -/
import Derived.Test.YtjcmnhipiejnpaaU16
namespace Go.Proofs.Ytjcmnhipiejnpaa
open Go.RowKit
set_option linter.unusedSimpArgs false
set_option linter.unusedVariables false

/-- What it leaves: a list of the bits of n, and that the operator is known. -/
abbrev Tw (W n : Nat) (w : World) (e : Ending) (w' : World) : Prop := ∃ r c, e = .returned (.tuple #[.slice (some ⟨r, 0, none⟩) W c, .bool true]) ∧ Rd w' r W (bl W n) ∧ Below w.heap.size w w'

theorem nb_down1 {W n x : Nat} (hx : x < 2 ^ W) : (List.range W).map (fun j => if j + n < W then (bl W x).getD (j + n) false else true) = bl W (2 ^ W - 1 - (2 ^ W - 1 - x) / 2 ^ n) := by
  apply List.ext_getElem?; intro j
  by_cases hj : j < W
  · simp only [bl, List.getElem?_map, List.getElem?_range hj, Option.map_some]
    have hz : (2 ^ W - 1 - x) / 2 ^ n < 2 ^ W := Nat.lt_of_le_of_lt (Nat.div_le_self _ _) (by have := Nat.two_pow_pos W; omega)
    rw [show 2 ^ W - 1 - (2 ^ W - 1 - x) / 2 ^ n = 2 ^ W - ((2 ^ W - 1 - x) / 2 ^ n + 1) by omega, Nat.testBit_two_pow_sub_succ hz, Nat.testBit_div_two_pow, show 2 ^ W - 1 - x = 2 ^ W - (x + 1) by omega, Nat.testBit_two_pow_sub_succ hx]
    congr 1
    by_cases h : j + n < W
    · simp [h, hj]
    · simp [h, hj]
  · simp [bl, hj]
theorem rdown1 {w : World} {g c W n x : Nat} (h : Rd w g W (bl W x)) (hW : W ≤ 128) (hn : n ≤ W) (hx : x < 2 ^ W) :
    Calls Try.prog 97 #[.slice (some ⟨g, 0, none⟩) W c, .int .i64 (n : Int), .bool true] w (Nw W (2 ^ W - 1 - (2 ^ W - 1 - x) / 2 ^ n) w) := by
  refine (refdown_any (c := c) h hW hn).mono ?_
  rintro e w' ⟨r, rfl, hB, hb⟩
  refine ⟨r, rfl, ?_, hb⟩
  rw [← nb_down1 hx]; exact hB

theorem bl_bits {k W x y : Nat} (hk : k ≤ 5) (hx : x < 2 ^ W) (hy : y < 2 ^ W) (f : Bool → Bool → Bool) (hf : (k = 0 ∧ f = fun v u => v && u) ∨ (k = 1 ∧ f = fun v u => v || u) ∨ (k = 2 ∧ f = fun v u => v != u) ∨ (k = 3 ∧ f = fun v u => !(v && u)) ∨ (k = 4 ∧ f = fun v u => !(v || u)) ∨ (k = 5 ∧ f = fun v u => v == u)) :
    (List.range W).map (fun j => f (x.testBit j) (y.testBit j)) = bl W (lowop k W x y) := by
  apply List.ext_getElem?; intro j
  by_cases hj : j < W
  · simp only [bl, List.getElem?_map, List.getElem?_range hj, Option.map_some]
    congr 1
    have e : ∀ z, z < 2 ^ W → (2 ^ W - 1 - z).testBit j = !z.testBit j := fun z hz => by
      rw [show 2 ^ W - 1 - z = 2 ^ W - (z + 1) by omega, Nat.testBit_two_pow_sub_succ hz]; simp [hj]
    rcases hf with ⟨rfl, rfl⟩ | ⟨rfl, rfl⟩ | ⟨rfl, rfl⟩ | ⟨rfl, rfl⟩ | ⟨rfl, rfl⟩ | ⟨rfl, rfl⟩
    · simp [lowop]
    · simp [lowop]
    · simp only [lowop, Nat.testBit_xor]
    · simp only [lowop]; rw [e _ (Nat.lt_of_le_of_lt Nat.and_le_left hx), Nat.testBit_and]
    · simp only [lowop]; rw [e _ (Nat.or_lt_two_pow hx hy), Nat.testBit_or]
    · simp only [lowop]; rw [e _ (Nat.xor_lt_two_pow hx hy), Nat.testBit_xor]; cases x.testBit j <;> cases y.testBit j <;> rfl
  · simp [bl, hj]

set_option maxRecDepth 20000 in
set_option maxHeartbeats 3200000 in
theorem rwords_bits {w : World} {g g' c c' W x y N : Nat} {op : Int} {f : Bool → Bool → Bool} (hop : op = 12 ∨ op = 13 ∨ op = 14 ∨ op = 15 ∨ op = 16 ∨ op = 17) (HE : Hid (∀ v u wx, Calls Try.prog 88 #[.int .i64 op, .bool v, .bool u] wx fun e w' => e = .returned (.bool (f v u)) ∧ w' = wx)) (hN : (List.range W).map (fun j => f (x.testBit j) (y.testBit j)) = bl W N) (ha : Rd w g W (bl W x)) (hb : Rd w g' W (bl W y)) (hW : W ≤ 128) :
    Calls Try.prog 71 #[.int .i64 op, .slice (some ⟨g, 0, none⟩) W c, .slice (some ⟨g', 0, none⟩) W c'] w (Tw W N w) := by
  have hmk := make_bools W hW
  have HA : Hid (Rd w g W (bl W x)) := ha
  have HB : Hid (Rd w g' W (bl W y)) := hb
  have hg := ha.2.1
  have hg' := hb.2.1
  obtain ⟨F, hF⟩ : ∃ F : Nat → Bool, F = fun j => f (x.testBit j) (y.testBit j) := ⟨_, rfl⟩
  have HF : Hid (∀ j, F j = f (x.testBit j) (y.testBit j)) := fun j => by rw [hF]
  rw [← hF] at hN
  have HN : Hid ((List.range W).map F = bl W N) := hN
  clear ha hb hF hN
  rcases hop with rfl | rfl | rfl | rfl | rfl | rfl
  all_goals
    go_enter Try.func71, Try.ntmps71
    go_wp2_with fail
    go_loopw [9] (fun i wr => ∃ k : Nat, k ≤ W ∧ i = .int .i64 k ∧ Bs wr w.heap.size (.slice (some ⟨w.heap.size, 0, none⟩) W W) (part W k F) ∧ Below w.heap.size w wr) (fun i _ => W - (intOf i).toNat)
    case atStart =>
      refine ⟨0, Nat.zero_le _, rfl, ?_, ?_⟩
      · rw [part_zero]; exact Bs.made W (Nat.le_refl _) (by omega)
      · go_grown
    case round =>
      obtain ⟨k, hk, rfl, hB, hbl⟩ := hrel
      have HBk : Hid (Bs wr w.heap.size (.slice (some ⟨w.heap.size, 0, none⟩) W W) (part W k F)) := hB
      clear hB
      have hbs := hbl.size
      by_cases hlt : k < W
      · obtain ⟨v, hv⟩ : ∃ v, v = x.testBit k := ⟨_, rfl⟩
        obtain ⟨u, hu⟩ : ∃ u, u = y.testBit k := ⟨_, rfl⟩
        have hck : wr.cell? ⟨g, k, none⟩ = some (.bool v) := by rw [hv]; exact Rd.bit (Rd.keepB HA.out hg hbl) hlt
        have hck' : wr.cell? ⟨g', k, none⟩ = some (.bool u) := by rw [hu]; exact Rd.bit (Rd.keepB HB.out hg' hbl) hlt
        have hco : wr.cell? ⟨w.heap.size, k, none⟩ = some (.bool false) := Bs.cell HBk.out (part_len W k _).symm (part_cell hlt)
        have hfo : wr.frozen? ⟨w.heap.size, k, none⟩ = false := Bs.frozen HBk.out (part_len W k _).symm k
        have HV : Hid (f v u = F k) := by unfold Hid; rw [HF.out k, hv, hu]
        have ne1 : ¬ (w.heap.size = g) := by omega
        have ne2 : ¬ (w.heap.size = g') := by omega
        clear hv hu
        go_wp2_with fail
        go_region_held3 (fun z => z.cell? ⟨g, k, none⟩ = some (.bool v) ∧ z.cell? ⟨g', k, none⟩ = some (.bool u))
          ((refine ⟨?_, ?_⟩ <;> simp [go_sem, hck, hck', ne1, ne2]))
          ((go_at_call 88; refine (HE.out _ _ _).mono ?_; rintro e wq ⟨rfl, rfl⟩))
        go_wp2_with fail
        refine ⟨⟨k + 1, by omega, by go_num, ?_, (hbl.setCell (by simp) _).drew⟩, by simp [intOf]; omega⟩
        rw [← part_put HV.out]; exact Bs.drew (Bs.store HBk.out (part_len W k _).symm k _)
      · obtain rfl : k = W := by omega
        have HR : Hid (Rd wr w.heap.size k (bl k N)) := by
          unfold Hid; rw [← HN.out, ← part_all]; exact Bs.rd HBk.out (part_len _ _ _).symm
        clear HBk
        go_wp2_with fail
        refine bodyPost_ret (v := .tuple #[.slice (some ⟨w.heap.size, 0, none⟩) k k, .bool true]) (by simp [results, Try.results71, go_sem]) rfl ?_
        exact ⟨_, _, rfl, HR.out, hbl⟩
end Go.Proofs.Ytjcmnhipiejnpaa
