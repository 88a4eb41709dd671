/- Contracts: the document's operators on lists of bits: turned, added. -/
import Derived.Test.YtohfjpahdoodgaaGreatDoorU1
namespace Go.Proofs.YtohfjpahdoodgaaGreatDoor.Ag
open Go.RowKit
set_option linter.unusedSimpArgs false
set_option linter.unusedVariables false

/-- Block g holds the list l. -/
def Rd (w : World) (g W : Nat) (l : List Bool) : Prop := l.length = W ∧ g < w.heap.size ∧ ∀ j, j < W → w.cell? ⟨g, j, none⟩ = some (.bool (l.getD j false))
theorem Rd.keep {w w' : World} {g W : Nat} {l : List Bool} (h : Rd w g W l) (hb : Below w.heap.size w w') : Rd w' g W l :=
  ⟨h.1, Nat.lt_of_lt_of_le h.2.1 hb.size, fun j hj => by rw [hb.cell (p := ⟨g, j, none⟩) h.2.1]; exact h.2.2 j hj⟩
theorem Rd.keepB {B : Nat} {w w' : World} {g W : Nat} {l : List Bool} (h : Rd w g W l) (hg : g < B) (hb : Below B w w') : Rd w' g W l :=
  ⟨h.1, Nat.lt_of_lt_of_le h.2.1 hb.size, fun j hj => by rw [hb.cell (p := ⟨g, j, none⟩) hg]; exact h.2.2 j hj⟩
theorem Bs.rd {w : World} {base g c W : Nat} {l : List Bool} (h : Bs w base (.slice (some ⟨g, 0, none⟩) W c) l) (hW : W = l.length) : Rd w g W l :=
  ⟨hW.symm, (Bs.lt h).2, fun j hj => Bs.cell h hW (by simp [← hW, hj])⟩

/-- The list of F's truths, the first k laid. -/
def part (W k : Nat) (F : Nat → Bool) : List Bool := (List.range W).map fun j => decide (j < k) && F j
theorem part_len (W k : Nat) (F : Nat → Bool) : (part W k F).length = W := by simp [part]
theorem part_put {W k : Nat} {F : Nat → Bool} {v : Bool} (hv : v = F k) : (part W k F).set k v = part W (k + 1) F := by
  subst hv
  apply List.ext_getElem?
  intro j
  unfold part
  rw [List.getElem?_set]
  by_cases hjk : k = j
  · subst hjk
    by_cases h : k < W <;> simp [h]
  · by_cases h : j < W
    · have : decide (j < k + 1) = decide (j < k) := by by_cases h1 : j < k <;> simp [h1] <;> omega
      simp [hjk, h, this]
    · simp [hjk, h]
theorem part_zero (W : Nat) (F : Nat → Bool) : part W 0 F = List.replicate W false := by
  apply List.ext_getElem?; intro j
  by_cases hj : j < W <;> simp [part, hj]
theorem part_cell {W k : Nat} {F : Nat → Bool} (h : k < W) : (part W k F)[k]? = some false := by simp [part, h]
theorem part_all (W : Nat) (F : Nat → Bool) : part W W F = (List.range W).map F := by
  apply List.ext_getElem?; intro j
  by_cases hj : j < W <;> simp [part, hj]

set_option maxHeartbeats 800000 in
theorem refnot_any {w : World} {g c W : Nat} {l : List Bool} (h : Rd w g W l) (hW : W ≤ 128) :
    Calls Tryz.prog 97 #[.slice (some ⟨g, 0, none⟩) W c] w fun e w' => ∃ b, e = .returned (.slice (some ⟨b, 0, none⟩) W W) ∧ Bs w' w.heap.size (.slice (some ⟨b, 0, none⟩) W W) ((List.range W).map fun j => !l.getD j false) ∧ Below w.heap.size w w' := by
  have hmk := make_bools W hW
  obtain ⟨hl, hg, hc⟩ := h
  have HC : Hid _ := hc
  clear hc
  obtain ⟨F, hF⟩ : ∃ F : Nat → Bool, F = fun j => !l.getD j false := ⟨_, rfl⟩
  have HF : Hid (∀ j, F j = !l.getD j false) := fun j => by rw [hF]
  rw [← hF]
  clear hF
  go_enter Tryz.func97, Tryz.ntmps97
  go_wp2_with fail
  go_loopw [4] (fun i wr => ∃ k : Nat, k ≤ W ∧ i = .int .i64 k ∧ Bs wr w.heap.size (.slice (some ⟨w.heap.size, 0, none⟩) W W) (part W k F) ∧ Below w.heap.size w wr) (fun i _ => W - (intOf i).toNat)
  case atStart =>
    refine ⟨0, Nat.zero_le _, rfl, ?_, ?_⟩
    · rw [part_zero]; exact Bs.made W (Nat.le_refl _) (by omega)
    · go_grown
  case round =>
    obtain ⟨k, hk, rfl, hB, hbl⟩ := hrel
    have HB : Hid (Bs wr w.heap.size (.slice (some ⟨w.heap.size, 0, none⟩) W W) (part W k F)) := hB
    clear hB
    by_cases hlt : k < W
    · obtain ⟨v, hv⟩ : ∃ v, v = l.getD k false := ⟨_, rfl⟩
      have hck : wr.cell? ⟨g, k, none⟩ = some (.bool v) := by rw [hv, hbl.cell (p := ⟨g, k, none⟩) hg]; exact HC.out k hlt
      have hco : wr.cell? ⟨w.heap.size, k, none⟩ = some (.bool false) := Bs.cell HB.out (part_len W k F).symm (part_cell hlt)
      have hfo : wr.frozen? ⟨w.heap.size, k, none⟩ = false := Bs.frozen HB.out (part_len W k F).symm k
      have HV : Hid ((!v) = F k) := by unfold Hid; rw [HF.out k, hv]
      clear hv
      go_wp2_with fail
      refine ⟨⟨k + 1, by omega, by go_num, ?_, hbl.setCell (by simp) _⟩, by simp [intOf]; omega⟩
      rw [← part_put HV.out]; exact Bs.store HB.out (part_len W k F).symm k _
    · obtain rfl : k = W := by omega
      go_wp2_with fail
      go_ret
      refine ⟨_, rfl, ?_, hbl⟩
      rw [← part_all]; exact HB.out

/-- The carry ahead of bit k. -/
def car (a b : List Bool) (c : Bool) : Nat → Bool
  | 0 => c
  | k + 1 => (a.getD k false && b.getD k false) || (car a b c k && (a.getD k false || b.getD k false))
def sumb (a b : List Bool) (c : Bool) (k : Nat) : Bool := (a.getD k false != b.getD k false) != car a b c k

/-- The number of F's first k truths. -/
def pn (F : Nat → Bool) : Nat → Nat
  | 0 => 0
  | k + 1 => pn F k + (F k).toNat * 2 ^ k
theorem pn_congr {F G : Nat → Bool} : ∀ {k : Nat}, (∀ j, j < k → F j = G j) → pn F k = pn G k
  | 0, _ => rfl
  | k + 1, h => by rw [pn, pn, pn_congr (fun j hj => h j (by omega)), h k (by omega)]
theorem pn_cons (b : Bool) (F : Nat → Bool) : ∀ k, pn (fun j => match j with | 0 => b | j + 1 => F j) (k + 1) = b.toNat + 2 * pn F k
  | 0 => by simp [pn]
  | k + 1 => by rw [pn, pn_cons b F k, pn, Nat.pow_succ, Nat.mul_add]; simp only [Nat.add_assoc]; rw [Nat.mul_comm (2 ^ k) 2, Nat.mul_left_comm]
theorem nb_pn : ∀ l : List Bool, nb l = pn (fun j => l.getD j false) l.length
  | [] => rfl
  | b :: l => by
    rw [nb, nb_pn l, List.length_cons, ← pn_cons]
    exact pn_congr fun j _ => by cases j <;> rfl
theorem nb_map (W : Nat) (F : Nat → Bool) : nb ((List.range W).map F) = pn F W := by
  rw [nb_pn, List.length_map, List.length_range]
  exact pn_congr fun j hj => by simp [hj]
theorem pn_add (a b : List Bool) (c : Bool) : ∀ k, pn (sumb a b c) k + (car a b c k).toNat * 2 ^ k = pn (fun j => a.getD j false) k + pn (fun j => b.getD j false) k + c.toNat
  | 0 => by simp [pn, car]
  | k + 1 => by
    have ih := pn_add a b c k
    have e : (sumb a b c k).toNat + 2 * (car a b c (k + 1)).toNat = (a.getD k false).toNat + (b.getD k false).toNat + (car a b c k).toNat := by
      simp only [sumb, car]
      cases a.getD k false <;> cases b.getD k false <;> cases car a b c k <;> rfl
    simp only [pn, Nat.pow_succ]
    generalize 2 ^ k = P at *
    have h1 : (car a b c (k + 1)).toNat * (P * 2) = 2 * (car a b c (k + 1)).toNat * P := by rw [Nat.mul_comm P 2, ← Nat.mul_assoc, Nat.mul_comm _ 2]
    have h2 : ((sumb a b c k).toNat + 2 * (car a b c (k + 1)).toNat) * P = ((a.getD k false).toNat + (b.getD k false).toNat + (car a b c k).toNat) * P := by rw [e]
    simp only [Nat.add_mul] at h2
    rw [h1]
    omega
theorem nb_add {W : Nat} {a b : List Bool} {c : Bool} (ha : a.length = W) (hb : b.length = W) : nb ((List.range W).map (sumb a b c)) = (nb a + nb b + c.toNat) % 2 ^ W := by
  have h := pn_add a b c W
  have hl := nb_lt ((List.range W).map (sumb a b c))
  rw [List.length_map, List.length_range] at hl
  rw [nb_map] at hl ⊢
  rw [nb_pn a, nb_pn b, ha, hb, ← h, Nat.add_mul_mod_self_right, Nat.mod_eq_of_lt hl]

set_option maxHeartbeats 1600000 in
theorem refadd_any {w : World} {g g' c c' W : Nat} {a b : List Bool} {cy : Bool} (ha : Rd w g W a) (hb : Rd w g' W b) (hW : W ≤ 128) :
    Calls Tryz.prog 74 #[.slice (some ⟨g, 0, none⟩) W c, .slice (some ⟨g', 0, none⟩) W c', .bool cy] w fun e w' => ∃ r, e = .returned (.slice (some ⟨r, 0, none⟩) W W) ∧ Bs w' w.heap.size (.slice (some ⟨r, 0, none⟩) W W) ((List.range W).map (sumb a b cy)) ∧ Below w.heap.size w w' := by
  have hmk := make_bools W hW
  obtain ⟨hl, hg, hc⟩ := ha
  obtain ⟨hl', hg', hc'⟩ := hb
  have HC : Hid _ := hc
  have HC' : Hid _ := hc'
  clear hc hc' hl hl'
  go_enter Tryz.func74, Tryz.ntmps74
  go_wp2_with fail
  go_loopw [8, 2] (fun i d wr => ∃ k : Nat, k ≤ W ∧ i = .int .i64 k ∧ d = .bool (car a b cy k) ∧ Bs wr w.heap.size (.slice (some ⟨w.heap.size, 0, none⟩) W W) (part W k (sumb a b cy)) ∧ Below w.heap.size w wr) (fun i _ _ => W - (intOf i).toNat)
  case atStart =>
    refine ⟨0, Nat.zero_le _, rfl, rfl, ?_, ?_⟩
    · rw [part_zero]; exact Bs.made W (Nat.le_refl _) (by omega)
    · go_grown
  case round =>
    obtain ⟨k, hk, rfl, rfl, hB, hbl⟩ := hrel
    have HB : Hid (Bs wr w.heap.size (.slice (some ⟨w.heap.size, 0, none⟩) W W) (part W k (sumb a b cy))) := hB
    clear hB
    have hbs := hbl.size
    by_cases hlt : k < W
    · obtain ⟨v, hv⟩ : ∃ v, v = a.getD k false := ⟨_, rfl⟩
      obtain ⟨u, hu⟩ : ∃ u, u = b.getD k false := ⟨_, rfl⟩
      obtain ⟨y, hy⟩ : ∃ y, y = car a b cy k := ⟨_, rfl⟩
      have hck : wr.cell? ⟨g, k, none⟩ = some (.bool v) := by rw [hv, hbl.cell (p := ⟨g, k, none⟩) hg]; exact HC.out k hlt
      have hck' : wr.cell? ⟨g', k, none⟩ = some (.bool u) := by rw [hu, hbl.cell (p := ⟨g', k, none⟩) hg']; exact HC'.out k hlt
      have hco : wr.cell? ⟨w.heap.size, k, none⟩ = some (.bool false) := Bs.cell HB.out (part_len W k _).symm (part_cell hlt)
      have hfo : wr.frozen? ⟨w.heap.size, k, none⟩ = false := Bs.frozen HB.out (part_len W k _).symm k
      have HV : Hid (((v != u) != y) = sumb a b cy k) := by unfold Hid; rw [hv, hu, hy]; rfl
      have HY : Hid (car a b cy (k + 1) = ((v && u) || (y && (v || u)))) := by unfold Hid; rw [hv, hu, hy]; rfl
      have ne1 : ¬ (w.heap.size = g) := by omega
      have ne2 : ¬ (w.heap.size = g') := by omega
      rw [← hy]
      clear hv hu hy
      go_wp2_with fail
      go_region_held3 (fun x => x.cell? ⟨g, k, none⟩ = some (.bool v) ∧ x.cell? ⟨g', k, none⟩ = some (.bool u))
        ((refine ⟨?_, ?_⟩ <;> simp [go_sem, hck, hck', ne1, ne2]))
        (fail)
      have HB2 : Hid (Bs (wr.setCell ⟨w.heap.size, k, none⟩ (.bool ((v != u) != y))).drew w.heap.size (.slice (some ⟨w.heap.size, 0, none⟩) W W) (part W (k + 1) (sumb a b cy))) := by
        unfold Hid; rw [← part_put HV.out]; exact Bs.drew (Bs.store HB.out (part_len W k _).symm k _)
      have hb2 : Below w.heap.size w (wr.setCell ⟨w.heap.size, k, none⟩ (.bool ((v != u) != y))).drew := (hbl.setCell (by simp) _).drew
      clear HB hbl HV
      cases v <;> cases u <;> cases y
      all_goals
        go_wp2_with fail
        refine ⟨⟨k + 1, by omega, by go_num, by rw [HY.out]; rfl, HB2.out, hb2⟩, by simp [intOf]; omega⟩
    · obtain rfl : k = W := by omega
      go_wp2_with fail
      go_ret
      refine ⟨_, rfl, ?_, hbl⟩
      rw [← part_all]; exact HB.out
end Go.Proofs.YtohfjpahdoodgaaGreatDoor.Ag
