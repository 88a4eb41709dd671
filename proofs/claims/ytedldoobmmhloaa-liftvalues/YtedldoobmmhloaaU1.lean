/- Lists of bits: their numbers; the document's bits and words over them. -/
import Derived.Test.YtedldoobmmhloaaG
namespace Go.Proofs.Ytedldoobmmhloaa
open Go.RowKit
set_option linter.unusedSimpArgs false
set_option linter.unusedVariables false

/-- The number of bits, the lowest first. -/
def nb : List Bool → Nat
  | [] => 0
  | b :: l => b.toNat + 2 * nb l
/-- The bits of a number. -/
def bl (W n : Nat) : List Bool := (List.range W).map n.testBit

theorem nb_lt : ∀ l : List Bool, nb l < 2 ^ l.length
  | [] => by simp [nb]
  | b :: l => by
    have := nb_lt l
    have hb : b.toNat ≤ 1 := by cases b <;> decide
    simp only [nb, List.length_cons, Nat.pow_succ]; omega
theorem nb_bit : ∀ (l : List Bool) (j : Nat), (nb l).testBit j = l.getD j false
  | [], j => by simp [nb]
  | b :: l, 0 => by
    simp only [nb, Nat.testBit_zero]
    cases b
    · simp
    · simp only [Bool.toNat_true, List.getD_cons_zero, decide_eq_true_eq]; omega
  | b :: l, j + 1 => by
    rw [Nat.testBit_succ]
    have : nb (b :: l) / 2 = nb l := by
      simp only [nb]; cases b
      · simp
      · simp only [Bool.toNat_true]; omega
    rw [this, nb_bit l j]; simp
theorem bl_len (W n : Nat) : (bl W n).length = W := by simp [bl]
theorem bl_get {W n j : Nat} (h : j < W) : (bl W n)[j]? = some (n.testBit j) := by simp [bl, h]
/-- A list's cells. -/
def bv (l : List Bool) : List Value := l.map Value.bool
theorem bv_get (l : List Bool) (j : Nat) : (bv l)[j]? = l[j]?.map Value.bool := by simp [bv]
theorem bv_one (l : List Bool) : ∀ u ∈ bv l, u.oneCell' = true := by
  intro u hu
  obtain ⟨b, -, rfl⟩ := List.mem_map.1 hu
  rfl

/-- v owns the list l. -/
def Bs (w : World) (base : Nat) (v : Value) (l : List Bool) : Prop := w.ownsRow base 4 1 v l.length (bv l)
theorem Bs.keep {w w' : World} {base : Nat} {v : Value} {l : List Bool} (h : Bs w base v l) (hb : Below w.heap.size w w') : Bs w' base v l :=
  h.kept (row := none) ⟨hb.os, hb.tape, hb.output, hb.size, fun k hk _ => hb.block k hk⟩ (by cases hv : v.ownBlock <;> simp)
theorem Bs.mono {w : World} {b b' : Nat} {v : Value} {l : List Bool} (h : Bs w b v l) (hb : b' ≤ b) : Bs w b' v l := by
  refine ⟨h.1, ?_⟩
  rcases h.2 with h | ⟨g, cap, cur, h1, h2, r⟩
  · exact Or.inl h
  · exact Or.inr ⟨g, cap, cur, h1, Nat.le_trans hb h2, r⟩
theorem Bs.cell {w : World} {base g cap n : Nat} {l : List Bool} (h : Bs w base (.slice (some ⟨g, 0, none⟩) n cap) l) (hn : n = l.length) {j : Nat} {b : Bool} (hj : l[j]? = some b) : w.cell? ⟨g, j, none⟩ = some (.bool b) := by
  subst hn
  have hlt : j < l.length := (List.getElem?_eq_some_iff.1 hj).1
  rw [World.ownsRow.cellAt h j (by omega), bv_get, hj]; rfl
theorem Bs.frozen {w : World} {base g cap n : Nat} {l : List Bool} (h : Bs w base (.slice (some ⟨g, 0, none⟩) n cap) l) (hn : n = l.length) (j : Nat) : w.frozen? ⟨g, j, none⟩ = false := by
  subst hn; exact World.ownsRow.frozenAt h j
theorem Bs.store {w : World} {base g cap n : Nat} {l : List Bool} (h : Bs w base (.slice (some ⟨g, 0, none⟩) n cap) l) (hn : n = l.length) (j : Nat) (b : Bool) : Bs (w.setCell ⟨g, j, none⟩ (.bool b)) base (.slice (some ⟨g, 0, none⟩) n cap) (l.set j b) := by
  subst hn
  have := (World.ownsRow.stored h j (.bool b)).1
  unfold Bs bv
  rw [List.length_set, List.map_set]
  exact this
theorem Bs.lt {w : World} {base g cap n : Nat} {l : List Bool} (h : Bs w base (.slice (some ⟨g, 0, none⟩) n cap) l) : base ≤ g ∧ g < w.heap.size :=
  World.ownsRow.lt h g rfl
theorem Bs.made {w : World} {base : Nat} (W : Nat) (hb : base ≤ w.heap.size) (hW : W ≤ 1000) : Bs (w.alloc (.cells (Array.replicate W (.bool false)) 4)) base (.slice (some ⟨w.heap.size, 0, none⟩) W W) (List.replicate W false) := by
  have h := World.ownsRow_lit (base := base) (e := 4) (size := 1) w (Array.replicate W (.bool false)) W hb (by unfold maxLen; omega) (by simp)
  unfold Bs bv
  simpa using h
theorem Bs.drew {w : World} {base : Nat} {v : Value} {l : List Bool} (h : Bs w base v l) : Bs w.drew base v l := h
theorem Bs.alloc {w : World} {base : Nat} {v : Value} {l : List Bool} (h : Bs w base v l) (o : Obj) : Bs (w.alloc o) base v l := World.ownsRow.alloc h o

theorem part_set {W n k : Nat} {v : Bool} (hv : v = n.testBit k) : ((List.range W).map fun j => decide (j < k) && n.testBit j).set k v = (List.range W).map fun j => decide (j < k + 1) && n.testBit j := by
  subst hv
  apply List.ext_getElem?
  intro j
  rw [List.getElem?_set]
  by_cases hjk : k = j
  · subst hjk
    by_cases h : k < W <;> simp [h]
  · by_cases h : j < W
    · have : decide (j < k + 1) = decide (j < k) := by by_cases h1 : j < k <;> simp [h1] <;> omega
      simp [hjk, h, this]
    · simp [hjk, h]

set_option maxHeartbeats 800000 in
theorem bits_own {W n : Nat} {WW lo hi : Int} (h2 : W ≤ 128) (hn : n < 2 ^ 128) (hw : WW = W) (hl : lo = LO n) (hh : hi = HI n) (w : World) :
    Calls Try.prog 23 #[.agg #[.int .i64 WW, .int .u64 lo, .int .u64 hi]] w fun e w' => ∃ g, e = .returned (.slice (some ⟨g, 0, none⟩) W W) ∧ Bs w' w.heap.size (.slice (some ⟨g, 0, none⟩) W W) (bl W n) ∧ Below w.heap.size w w' := by
  subst hw hl hh
  have hmk := make_bools W h2
  go_enter Try.func23, Try.ntmps23
  go_wp2_with fail
  go_loopw [4] (fun i wr => ∃ k : Nat, k ≤ W ∧ i = .int .i64 k ∧ (wr.cell? ⟨w.heap.size, 0, none⟩ = some (.int .i64 W) ∧ wr.cell? ⟨w.heap.size, 1, none⟩ = some (.int .u64 (LO n)) ∧ wr.cell? ⟨w.heap.size, 2, none⟩ = some (.int .u64 (HI n))) ∧ Bs wr (w.heap.size + 1) (.slice (some ⟨w.heap.size + 1, 0, none⟩) W W) ((List.range W).map fun j => decide (j < k) && n.testBit j) ∧ Below w.heap.size w wr) (fun i _ => W - (intOf i).toNat)
  case atStart =>
    refine ⟨0, Nat.zero_le _, rfl, ⟨?_, ?_, ?_⟩, ?_, ?_⟩
    · simp [go_sem]
    · simp [go_sem]
    · simp [go_sem]
    · have h := Bs.made (w := w.alloc (.cells #[.int .i64 W, .int .u64 (LO n), .int .u64 (HI n)] 25)) (base := w.heap.size + 1) W (by simp) (by omega)
      simp only [World.size_alloc] at h
      have e : (List.range W).map (fun j => decide (j < 0) && n.testBit j) = List.replicate W false := by
        apply List.ext_getElem?; intro j
        by_cases hj : j < W <;> simp [hj]
      rw [e]; exact h
    · go_grown
  case round =>
    obtain ⟨k, hk, rfl, hc, hB, hbl⟩ := hrel
    have HB : Hid _ := hB
    by_cases hlt : k < W
    · have hck : wr.cell? ⟨w.heap.size + 1, k, none⟩ = some (.bool false) := by
        have := Bs.cell hB (by simp) (j := k) (b := false) (by simp [hlt])
        exact this
      have hfr := Bs.frozen hB (by simp) k
      clear hB
      by_cases h64 : (k : Int) < 64
      · have HV : Hid _ := bit_lo (n := n) (k := k) (by omega)
        go_wp2_with fail
        refine ⟨⟨k + 1, by omega, by go_num, ⟨?_, ?_, ?_⟩, ?_, ?_⟩, by simp [intOf]; omega⟩
        · rw [World.cell?_setCell_other _ _ _ _ (by simp)]; exact hc.1
        · rw [World.cell?_setCell_other _ _ _ _ (by simp)]; exact hc.2.1
        · rw [World.cell?_setCell_other _ _ _ _ (by simp)]; exact hc.2.2
        · rw [← part_set HV.out]; exact Bs.store HB.out (by simp) k _
        · exact hbl.setCell (by simp) _
      · have HV : Hid _ := bit_hi (k := k) hn (by omega)
        go_wp2_with fail
        refine ⟨⟨k + 1, by omega, by go_num, ⟨?_, ?_, ?_⟩, ?_, ?_⟩, by simp [intOf]; omega⟩
        · rw [World.cell?_setCell_other _ _ _ _ (by simp)]; exact hc.1
        · rw [World.cell?_setCell_other _ _ _ _ (by simp)]; exact hc.2.1
        · rw [World.cell?_setCell_other _ _ _ _ (by simp)]; exact hc.2.2
        · rw [← part_set HV.out]; exact Bs.store HB.out (by simp) k _
        · exact hbl.setCell (by simp) _
    · obtain rfl : k = W := by omega
      clear hB
      go_wp2_with fail
      go_ret
      refine ⟨_, rfl, ?_, hbl⟩
      have h := Bs.mono HB.out (b' := w.heap.size) (by omega)
      have e : (List.range k).map (fun j => decide (j < k) && n.testBit j) = bl k n := by
        apply List.ext_getElem?; intro j
        by_cases hj : j < k <;> simp [bl, hj]
      rw [e] at h; exact h

set_option maxHeartbeats 800000 in
theorem word_at {W n g off cap : Nat} (h2 : W ≤ 128) (hn : n < 2 ^ 128) (w : World) (hcell : ∀ j, j < W → w.cell? ⟨g, off + j, none⟩ = some (.bool (n.testBit j))) (hg : g < w.heap.size) :
    Calls Try.prog 9 #[.slice (some ⟨g, off, none⟩) W cap] w fun e w' => e = .returned (.agg #[.int .i64 W, .int .u64 (LO (n % 2 ^ W)), .int .u64 (HI (n % 2 ^ W))]) ∧ Below w.heap.size w w' := by
  have HC : Hid _ := hcell
  clear hcell
  go_enter Try.func9, Try.ntmps9
  go_wp2_with fail
  go_loopw [4] (fun i wr => ∃ k : Nat, k ≤ W ∧ i = .int .i64 k ∧ (wr.cell? ⟨w.heap.size + 1, 0, none⟩ = some (.int .i64 W) ∧ wr.cell? ⟨w.heap.size + 1, 1, none⟩ = some (.int .u64 (LO (n % 2 ^ k))) ∧ wr.cell? ⟨w.heap.size + 1, 2, none⟩ = some (.int .u64 (HI (n % 2 ^ k)))) ∧ (wr.cell? ⟨w.heap.size, 0, none⟩ = some (.int .i64 0) ∧ wr.cell? ⟨w.heap.size, 1, none⟩ = some (.int .u64 0) ∧ wr.cell? ⟨w.heap.size, 2, none⟩ = some (.int .u64 0)) ∧ (∀ j, wr.frozen? ⟨w.heap.size + 1, j, none⟩ = false) ∧ (∀ j, wr.frozen? ⟨w.heap.size, j, none⟩ = false) ∧ Below w.heap.size w wr) (fun i _ => W - (intOf i).toNat)
  case atStart =>
    refine ⟨0, Nat.zero_le _, rfl, ⟨?_, ?_, ?_⟩, ⟨?_, ?_, ?_⟩, ?_, ?_, ?_⟩
    · simp [go_sem]
    · simp [go_sem, Nat.mod_one, ← lo0]
    · simp [go_sem, Nat.mod_one, ← hi0]
    · simp [go_sem]
    · simp [go_sem]
    · simp [go_sem]
    · intro j; simp [go_sem]
    · intro j; simp [go_sem]
    · go_grown
  case round =>
    obtain ⟨k, hk, rfl, hc, hr, hf1, hf0, hbl⟩ := hrel
    by_cases hlt : k < W
    · have hck : wr.cell? ⟨g, off + k, none⟩ = some (.bool (n.testBit k)) := (hbl.cell (p := ⟨g, off + k, none⟩) hg).trans (HC.out k hlt)
      cases hb : n.testBit k
      · rw [hb] at hck
        have HN : Hid _ := word_no hb
        clear hb
        by_cases h64 : (k : Int) < 64
        all_goals
          go_wp2_with fail
          refine ⟨⟨k + 1, by omega, by go_num, by rw [HN.out]; exact hc, hr, hf1, hf0, hbl⟩, by simp [intOf]; omega⟩
      · rw [hb] at hck
        by_cases h64 : (k : Int) < 64
        · have HN : Hid _ := or_lo (n := n) (k := k) (by omega) hb
          have HM : Hid _ := or_lo_hi (n := n) (k := k) (by omega) hb
          clear hb
          go_wp2_with fail
          go_region
          all_goals
            go_wp2_with fail
            refine ⟨⟨k + 1, by omega, by go_num, ⟨?_, ?_, ?_⟩, ⟨?_, ?_, ?_⟩, ?_, ?_, ?_⟩, by simp [intOf]; omega⟩
            · exact (World.cell?_setCell_other _ _ _ _ (by simp)).trans hc.1
            · exact (World.cell?_setCell_same _ _ _ hc.2.1).trans (by rw [HN.out])
            · exact (World.cell?_setCell_other _ _ _ _ (by simp)).trans (by rw [hc.2.2, HM.out])
            · exact (World.cell?_setCell_other _ _ _ _ (by simp)).trans hr.1
            · exact (World.cell?_setCell_other _ _ _ _ (by simp)).trans hr.2.1
            · exact (World.cell?_setCell_other _ _ _ _ (by simp)).trans hr.2.2
            · exact fun j => (World.frozen?_setCell ..).trans (hf1 j)
            · exact fun j => (World.frozen?_setCell ..).trans (hf0 j)
            · exact (hbl.setCell (by simp) _).drew
        · have HN : Hid _ := or_hi (n := n) (k := k) (by omega) (by omega) hn hb
          have HM : Hid _ := or_hi_lo (n := n) (k := k) (by omega) hb
          clear hb
          go_wp2_with fail
          go_region
          all_goals
            go_wp2_with fail
            refine ⟨⟨k + 1, by omega, by go_num, ⟨?_, ?_, ?_⟩, ⟨?_, ?_, ?_⟩, ?_, ?_, ?_⟩, by simp [intOf]; omega⟩
            · exact (World.cell?_setCell_other _ _ _ _ (by simp)).trans hc.1
            · exact (World.cell?_setCell_other _ _ _ _ (by simp)).trans (by rw [hc.2.1, HM.out])
            · exact (World.cell?_setCell_same _ _ _ hc.2.2).trans (by rw [HN.out])
            · exact (World.cell?_setCell_other _ _ _ _ (by simp)).trans hr.1
            · exact (World.cell?_setCell_other _ _ _ _ (by simp)).trans hr.2.1
            · exact (World.cell?_setCell_other _ _ _ _ (by simp)).trans hr.2.2
            · exact fun j => (World.frozen?_setCell ..).trans (hf1 j)
            · exact fun j => (World.frozen?_setCell ..).trans (hf0 j)
            · exact (hbl.setCell (by simp) _).drew
    · obtain rfl : k = W := by omega
      go_wp2_with fail
      refine bodyPost_ret (v := .agg #[.int .i64 k, .int .u64 (LO (n % 2 ^ k)), .int .u64 (HI (n % 2 ^ k))]) (by simp [results, Try.results9, go_sem, hr]) rfl ?_
      exact ⟨rfl, by go_grown⟩
end Go.Proofs.Ytedldoobmmhloaa
