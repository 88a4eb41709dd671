/- Contracts: the document's own words: bits of a value, a word of bits, a new word. -/
import Derived.Test.YtnflphhckgeneaaGreatMg3
import Derived.Test.YtnflphhckgeneaaGreatMg4
namespace Go.Proofs.YtnflphhckgeneaaGreat
set_option maxHeartbeats 12800000
set_option maxRecDepth 100000
open Go.RowKit
set_option linter.unusedSimpArgs false
set_option linter.unusedVariables false

theorem info4 : ∃ i, Tryz.prog.info? 4 = some i ∧ i.zero = some (.bool false) ∧ i.size = 1 ∧ i.bytes = 1 :=
  by
  have h : (Tryz.prog.info? 4).map (fun i => (i.zero, i.size, i.bytes)) = some (some (.bool false), 1, 1) := by kernel_rfl
  obtain ⟨i, hi, e⟩ := Option.map_eq_some_iff.1 h
  simp only [Prod.mk.injEq] at e
  exact ⟨i, hi, e.1, e.2.1, e.2.2⟩

theorem make_bools (W : Nat) (hW : W ≤ 128) (w : World) :
    (Instr.makeSlice 93 (.int .i64 W) (.int .i64 W)).run Tryz.prog w = .ok (.slice (some ⟨w.heap.size, 0, none⟩) W W) (w.alloc (.cells (Array.replicate W (.bool false)) 4)) := by
  obtain ⟨i, hi, hz, hs, hb⟩ := info4
  have h := run_make (P := Tryz.prog) w 93 4 i (.bool false) Tryz.underlying93 hi hz .i64 .i64 W W (by omega) (by omega) (by rw [hb]; omega) (by omega)
  rw [h, hs]
  have e : madeCells (Value.bool false).cells (W * 1) = Array.replicate W (.bool false) := by
    apply Array.ext'
    rw [show (Value.bool false).cells = #[.bool false] from rfl, toList_madeCells_one]; simp
  simp only [Int.toNat_natCast, e]

/-- The width that a word is given. -/
def wdt (w : Int) : Nat := (w.tmod 128).natAbs + 1
/-- A word out of any numbers. -/
def num (lo hi : Int) : Nat := lo.toNat + 2 ^ 64 * hi.toNat

/-- The number of bits, the lowest first. -/
def nb : List Bool → Nat
  | [] => 0
  | b :: l => b.toNat + 2 * nb l
/-- The bits of a number. -/
def bl (W n : Nat) : List Bool := (List.range W).map n.testBit

theorem nb_lt : ∀ l : List Bool, nb l < 2 ^ l.length
  | [] => by simp [nb]
  | b :: l => by
    have := nb_lt l
    have hb : b.toNat ≤ 1 := by cases b <;> decide
    simp only [nb, List.length_cons, Nat.pow_succ]; omega
theorem nb_bit : ∀ (l : List Bool) (j : Nat), (nb l).testBit j = l.getD j false
  | [], j => by simp [nb]
  | b :: l, 0 => by
    simp only [nb, Nat.testBit_zero]
    cases b
    · simp
    · simp only [Bool.toNat_true, List.getD_cons_zero, decide_eq_true_eq]; omega
  | b :: l, j + 1 => by
    rw [Nat.testBit_succ]
    have : nb (b :: l) / 2 = nb l := by
      simp only [nb]; cases b
      · simp
      · simp only [Bool.toNat_true]; omega
    rw [this, nb_bit l j]; simp
theorem bl_len (W n : Nat) : (bl W n).length = W := by simp [bl]
theorem bl_get {W n j : Nat} (h : j < W) : (bl W n)[j]? = some (n.testBit j) := by simp [bl, h]
theorem bl_getD (W n j : Nat) : (bl W n).getD j false = (decide (j < W) && n.testBit j) := by
  by_cases h : j < W <;> simp [bl, h]
theorem nb_bl (W n : Nat) : nb (bl W n) = n % 2 ^ W := by
  apply Nat.eq_of_testBit_eq; intro j
  rw [nb_bit, bl_getD, Nat.testBit_mod_two_pow]
theorem nb_append : ∀ l m : List Bool, nb (l ++ m) = nb l + 2 ^ l.length * nb m
  | [], m => by simp [nb]
  | b :: l, m => by
    simp only [List.cons_append, nb, nb_append l m, List.length_cons, Nat.pow_succ]
    rw [Nat.mul_add, ← Nat.mul_assoc, Nat.mul_comm 2 (2 ^ l.length)]; omega

/-- A list's cells. -/
def bv (l : List Bool) : List Value := l.map Value.bool
theorem bv_get (l : List Bool) (j : Nat) : (bv l)[j]? = l[j]?.map Value.bool := by simp [bv]
theorem bv_app (l m : List Bool) : bv (l ++ m) = bv l ++ bv m := by simp [bv]
theorem bv_one (l : List Bool) : ∀ u ∈ bv l, u.oneCell' = true := by
  intro u hu
  obtain ⟨b, -, rfl⟩ := List.mem_map.1 hu
  rfl

/-- v owns the list l. -/
def Bs (w : World) (base : Nat) (v : Value) (l : List Bool) : Prop := w.ownsRow base 4 1 v l.length (bv l)
theorem Bs.keep {w w' : World} {base : Nat} {v : Value} {l : List Bool} (h : Bs w base v l) (hb : Below w.heap.size w w') : Bs w' base v l :=
  h.kept (row := none) ⟨hb.os, hb.tape, hb.output, hb.size, fun k hk _ => hb.block k hk⟩ (by cases hv : v.ownBlock <;> simp)
theorem Bs.mono {w : World} {b b' : Nat} {v : Value} {l : List Bool} (h : Bs w b v l) (hb : b' ≤ b) : Bs w b' v l := by
  refine ⟨h.1, ?_⟩
  rcases h.2 with h | ⟨g, cap, cur, h1, h2, r⟩
  · exact Or.inl h
  · exact Or.inr ⟨g, cap, cur, h1, Nat.le_trans hb h2, r⟩
theorem Bs.cell {w : World} {base g cap n : Nat} {l : List Bool} (h : Bs w base (.slice (some ⟨g, 0, none⟩) n cap) l) (hn : n = l.length) {j : Nat} {b : Bool} (hj : l[j]? = some b) : w.cell? ⟨g, j, none⟩ = some (.bool b) := by
  subst hn
  have hlt : j < l.length := (List.getElem?_eq_some_iff.1 hj).1
  rw [World.ownsRow.cellAt h j (by omega), bv_get, hj]; rfl
theorem Bs.frozen {w : World} {base g cap n : Nat} {l : List Bool} (h : Bs w base (.slice (some ⟨g, 0, none⟩) n cap) l) (hn : n = l.length) (j : Nat) : w.frozen? ⟨g, j, none⟩ = false := by
  subst hn; exact World.ownsRow.frozenAt h j
theorem Bs.store {w : World} {base g cap n : Nat} {l : List Bool} (h : Bs w base (.slice (some ⟨g, 0, none⟩) n cap) l) (hn : n = l.length) (j : Nat) (b : Bool) : Bs (w.setCell ⟨g, j, none⟩ (.bool b)) base (.slice (some ⟨g, 0, none⟩) n cap) (l.set j b) := by
  subst hn
  have := (World.ownsRow.stored h j (.bool b)).1
  unfold Bs bv
  rw [List.length_set, List.map_set]
  exact this
theorem Bs.far {w : World} {base g cap n : Nat} {l : List Bool} (h : Bs w base (.slice (some ⟨g, 0, none⟩) n cap) l) {a : Addr} (ha : a.block ≠ g) (u : Value) : Bs (w.setCell a u) base (.slice (some ⟨g, 0, none⟩) n cap) l := by
  refine World.ownsRow.kept (row := some a.block) h ⟨rfl, rfl, rfl, by simp [World.setCell], fun k _ hk => Below.heap_setCell _ _ _ _ (fun e => hk (by rw [e]))⟩ (Or.inr ?_)
  intro e; simp [Value.ownBlock] at e; exact ha e.symm
theorem Bs.lt {w : World} {base g cap n : Nat} {l : List Bool} (h : Bs w base (.slice (some ⟨g, 0, none⟩) n cap) l) : base ≤ g ∧ g < w.heap.size :=
  World.ownsRow.lt h g rfl
theorem Bs.made {w : World} {base : Nat} (W : Nat) (hb : base ≤ w.heap.size) (hW : W ≤ 1000) : Bs (w.alloc (.cells (Array.replicate W (.bool false)) 4)) base (.slice (some ⟨w.heap.size, 0, none⟩) W W) (List.replicate W false) := by
  have h := World.ownsRow_lit (base := base) (e := 4) (size := 1) w (Array.replicate W (.bool false)) W hb (by unfold maxLen; omega) (by simp)
  unfold Bs bv
  simpa using h
theorem Bs.drew {w : World} {base : Nat} {v : Value} {l : List Bool} (h : Bs w base v l) : Bs w.drew base v l := h
theorem Bs.alloc {w : World} {base : Nat} {v : Value} {l : List Bool} (h : Bs w base v l) (o : Obj) : Bs (w.alloc o) base v l := World.ownsRow.alloc h o

theorem part_set {W n k : Nat} {v : Bool} (hv : v = n.testBit k) : ((List.range W).map fun j => decide (j < k) && n.testBit j).set k v = (List.range W).map fun j => decide (j < k + 1) && n.testBit j := by
  subst hv
  apply List.ext_getElem?
  intro j
  rw [List.getElem?_set]
  by_cases hjk : k = j
  · subst hjk
    by_cases h : k < W <;> simp [h]
  · by_cases h : j < W
    · have : decide (j < k + 1) = decide (j < k) := by by_cases h1 : j < k <;> simp [h1] <;> omega
      simp [hjk, h, this]
    · simp [hjk, h]

theorem bits_own {W n : Nat} {WW lo hi : Int} (h2 : W ≤ 128) (hn : n < 2 ^ 128) (hw : WW = W) (hl : lo = LO n) (hh : hi = HI n) (w : World) :
    Calls Tryz.prog 50 #[.agg #[.int .i64 WW, .int .u64 lo, .int .u64 hi]] w fun e w' => ∃ g, e = .returned (.slice (some ⟨g, 0, none⟩) W W) ∧ Bs w' w.heap.size (.slice (some ⟨g, 0, none⟩) W W) (bl W n) ∧ Below w.heap.size w w' := by
  subst hw hl hh
  have hmk := make_bools W h2
  go_enter Tryz.func50, Tryz.ntmps50
  go_wp2_with fail
  go_loopw [4] (fun i wr => ∃ k : Nat, k ≤ W ∧ i = .int .i64 k ∧ (wr.cell? ⟨w.heap.size, 0, none⟩ = some (.int .i64 W) ∧ wr.cell? ⟨w.heap.size, 1, none⟩ = some (.int .u64 (LO n)) ∧ wr.cell? ⟨w.heap.size, 2, none⟩ = some (.int .u64 (HI n))) ∧ Bs wr (w.heap.size + 1) (.slice (some ⟨w.heap.size + 1, 0, none⟩) W W) ((List.range W).map fun j => decide (j < k) && n.testBit j) ∧ Below w.heap.size w wr) (fun i _ => W - (intOf i).toNat)
  case atStart =>
    refine ⟨0, Nat.zero_le _, rfl, ⟨?_, ?_, ?_⟩, ?_, ?_⟩
    · simp [go_sem]
    · simp [go_sem]
    · simp [go_sem]
    · have h := Bs.made (w := w.alloc (.cells #[.int .i64 W, .int .u64 (LO n), .int .u64 (HI n)] 34)) (base := w.heap.size + 1) W (by simp) (by omega)
      simp only [World.size_alloc] at h
      have e : (List.range W).map (fun j => decide (j < 0) && n.testBit j) = List.replicate W false := by
        apply List.ext_getElem?; intro j
        by_cases hj : j < W <;> simp [hj]
      rw [e]; exact h
    · go_grown
  case round =>
    obtain ⟨k, hk, rfl, hc, hB, hbl⟩ := hrel
    have HB : Hid _ := hB
    by_cases hlt : k < W
    · have hck : wr.cell? ⟨w.heap.size + 1, k, none⟩ = some (.bool false) := by
        have := Bs.cell hB (by simp) (j := k) (b := false) (by simp [hlt])
        exact this
      have hfr := Bs.frozen hB (by simp) k
      clear hB
      by_cases h64 : (k : Int) < 64
      · have HV : Hid _ := bit_lo (n := n) (k := k) (by omega)
        go_wp2_with fail
        refine ⟨⟨k + 1, by omega, by go_num, ⟨?_, ?_, ?_⟩, ?_, ?_⟩, by simp [intOf]; omega⟩
        · rw [World.cell?_setCell_other _ _ _ _ (by simp)]; exact hc.1
        · rw [World.cell?_setCell_other _ _ _ _ (by simp)]; exact hc.2.1
        · rw [World.cell?_setCell_other _ _ _ _ (by simp)]; exact hc.2.2
        · rw [← part_set HV.out]; exact Bs.store HB.out (by simp) k _
        · exact hbl.setCell (by simp) _
      · have HV : Hid _ := bit_hi (k := k) hn (by omega)
        go_wp2_with fail
        refine ⟨⟨k + 1, by omega, by go_num, ⟨?_, ?_, ?_⟩, ?_, ?_⟩, by simp [intOf]; omega⟩
        · rw [World.cell?_setCell_other _ _ _ _ (by simp)]; exact hc.1
        · rw [World.cell?_setCell_other _ _ _ _ (by simp)]; exact hc.2.1
        · rw [World.cell?_setCell_other _ _ _ _ (by simp)]; exact hc.2.2
        · rw [← part_set HV.out]; exact Bs.store HB.out (by simp) k _
        · exact hbl.setCell (by simp) _
    · obtain rfl : k = W := by omega
      clear hB
      go_wp2_with fail
      go_ret
      refine ⟨_, rfl, ?_, hbl⟩
      have h := Bs.mono HB.out (b' := w.heap.size) (by omega)
      have e : (List.range k).map (fun j => decide (j < k) && n.testBit j) = bl k n := by
        apply List.ext_getElem?; intro j
        by_cases hj : j < k <;> simp [bl, hj]
      rw [e] at h; exact h

theorem word_at {W n g off cap : Nat} (h2 : W ≤ 128) (hn : n < 2 ^ 128) (w : World) (hcell : ∀ j, j < W → w.cell? ⟨g, off + j, none⟩ = some (.bool (n.testBit j))) (hg : g < w.heap.size) :
    Rt 49 #[.slice (some ⟨g, off, none⟩) W cap] w (.agg #[.int .i64 W, .int .u64 (LO (n % 2 ^ W)), .int .u64 (HI (n % 2 ^ W))]) := by
  have HC : Hid _ := hcell
  clear hcell
  go_enter Tryz.func49, Tryz.ntmps49
  go_wp2_with fail
  go_loopw [4] (fun i wr => ∃ k : Nat, k ≤ W ∧ i = .int .i64 k ∧ (wr.cell? ⟨w.heap.size + 1, 0, none⟩ = some (.int .i64 W) ∧ wr.cell? ⟨w.heap.size + 1, 1, none⟩ = some (.int .u64 (LO (n % 2 ^ k))) ∧ wr.cell? ⟨w.heap.size + 1, 2, none⟩ = some (.int .u64 (HI (n % 2 ^ k)))) ∧ (wr.cell? ⟨w.heap.size, 0, none⟩ = some (.int .i64 0) ∧ wr.cell? ⟨w.heap.size, 1, none⟩ = some (.int .u64 0) ∧ wr.cell? ⟨w.heap.size, 2, none⟩ = some (.int .u64 0)) ∧ (∀ j, wr.frozen? ⟨w.heap.size + 1, j, none⟩ = false) ∧ (∀ j, wr.frozen? ⟨w.heap.size, j, none⟩ = false) ∧ Below w.heap.size w wr) (fun i _ => W - (intOf i).toNat)
  case atStart =>
    refine ⟨0, Nat.zero_le _, rfl, ⟨?_, ?_, ?_⟩, ⟨?_, ?_, ?_⟩, ?_, ?_, ?_⟩
    · simp [go_sem]
    · simp [go_sem, Nat.mod_one, ← lo0]
    · simp [go_sem, Nat.mod_one, ← hi0]
    · simp [go_sem]
    · simp [go_sem]
    · simp [go_sem]
    · intro j; simp [go_sem]
    · intro j; simp [go_sem]
    · go_grown
  case round =>
    obtain ⟨k, hk, rfl, hc, hr, hf1, hf0, hbl⟩ := hrel
    by_cases hlt : k < W
    · have hck : wr.cell? ⟨g, off + k, none⟩ = some (.bool (n.testBit k)) := (hbl.cell (p := ⟨g, off + k, none⟩) hg).trans (HC.out k hlt)
      cases hb : n.testBit k
      · rw [hb] at hck
        have HN : Hid _ := word_no hb
        clear hb
        by_cases h64 : (k : Int) < 64
        all_goals
          go_wp2_with fail
          refine ⟨⟨k + 1, by omega, by go_num, by rw [HN.out]; exact hc, hr, hf1, hf0, hbl⟩, by simp [intOf]; omega⟩
      · rw [hb] at hck
        by_cases h64 : (k : Int) < 64
        · have HN : Hid _ := or_lo (n := n) (k := k) (by omega) hb
          have HM : Hid _ := or_lo_hi (n := n) (k := k) (by omega) hb
          clear hb
          go_wp2_with fail
          go_region
          all_goals
            go_wp2_with fail
            refine ⟨⟨k + 1, by omega, by go_num, ⟨?_, ?_, ?_⟩, ⟨?_, ?_, ?_⟩, ?_, ?_, ?_⟩, by simp [intOf]; omega⟩
            · exact (World.cell?_setCell_other _ _ _ _ (by simp)).trans hc.1
            · exact (World.cell?_setCell_same _ _ _ hc.2.1).trans (by rw [HN.out])
            · exact (World.cell?_setCell_other _ _ _ _ (by simp)).trans (by rw [hc.2.2, HM.out])
            · exact (World.cell?_setCell_other _ _ _ _ (by simp)).trans hr.1
            · exact (World.cell?_setCell_other _ _ _ _ (by simp)).trans hr.2.1
            · exact (World.cell?_setCell_other _ _ _ _ (by simp)).trans hr.2.2
            · exact fun j => (World.frozen?_setCell ..).trans (hf1 j)
            · exact fun j => (World.frozen?_setCell ..).trans (hf0 j)
            · exact (hbl.setCell (by simp) _).drew
        · have HN : Hid _ := or_hi (n := n) (k := k) (by omega) (by omega) hn hb
          have HM : Hid _ := or_hi_lo (n := n) (k := k) (by omega) hb
          clear hb
          go_wp2_with fail
          go_region
          all_goals
            go_wp2_with fail
            refine ⟨⟨k + 1, by omega, by go_num, ⟨?_, ?_, ?_⟩, ⟨?_, ?_, ?_⟩, ?_, ?_, ?_⟩, by simp [intOf]; omega⟩
            · exact (World.cell?_setCell_other _ _ _ _ (by simp)).trans hc.1
            · exact (World.cell?_setCell_other _ _ _ _ (by simp)).trans (by rw [hc.2.1, HM.out])
            · exact (World.cell?_setCell_same _ _ _ hc.2.2).trans (by rw [HN.out])
            · exact (World.cell?_setCell_other _ _ _ _ (by simp)).trans hr.1
            · exact (World.cell?_setCell_other _ _ _ _ (by simp)).trans hr.2.1
            · exact (World.cell?_setCell_other _ _ _ _ (by simp)).trans hr.2.2
            · exact fun j => (World.frozen?_setCell ..).trans (hf1 j)
            · exact fun j => (World.frozen?_setCell ..).trans (hf0 j)
            · exact (hbl.setCell (by simp) _).drew
    · obtain rfl : k = W := by omega
      go_wp2_with fail
      refine bodyPost_ret (v := .agg #[.int .i64 k, .int .u64 (LO (n % 2 ^ k)), .int .u64 (HI (n % 2 ^ k))]) (by simp [results, Tryz.results49, go_sem, hr]) rfl ?_
      exact ⟨rfl, by go_grown⟩

/-- Block g holds the list l. -/
def Rd (w : World) (g W : Nat) (l : List Bool) : Prop := l.length = W ∧ g < w.heap.size ∧ ∀ j, j < W → w.cell? ⟨g, j, none⟩ = some (.bool (l.getD j false))
theorem Rd.keep {w w' : World} {g W : Nat} {l : List Bool} (h : Rd w g W l) (hb : Below w.heap.size w w') : Rd w' g W l :=
  ⟨h.1, Nat.lt_of_lt_of_le h.2.1 hb.size, fun j hj => by rw [hb.cell (p := ⟨g, j, none⟩) h.2.1]; exact h.2.2 j hj⟩
theorem Rd.keepB {B : Nat} {w w' : World} {g W : Nat} {l : List Bool} (h : Rd w g W l) (hg : g < B) (hb : Below B w w') : Rd w' g W l :=
  ⟨h.1, Nat.lt_of_lt_of_le h.2.1 hb.size, fun j hj => by rw [hb.cell (p := ⟨g, j, none⟩) hg]; exact h.2.2 j hj⟩
theorem Bs.rd {w : World} {base g c W : Nat} {l : List Bool} (h : Bs w base (.slice (some ⟨g, 0, none⟩) W c) l) (hW : W = l.length) : Rd w g W l :=
  ⟨hW.symm, (Bs.lt h).2, fun j hj => Bs.cell h hW (by simp [← hW, hj])⟩

/-- The list of F's truths, the first k laid. -/
def part (W k : Nat) (F : Nat → Bool) : List Bool := (List.range W).map fun j => decide (j < k) && F j
theorem part_len (W k : Nat) (F : Nat → Bool) : (part W k F).length = W := by simp [part]
theorem part_put {W k : Nat} {F : Nat → Bool} {v : Bool} (hv : v = F k) : (part W k F).set k v = part W (k + 1) F := by
  subst hv
  apply List.ext_getElem?
  intro j
  unfold part
  rw [List.getElem?_set]
  by_cases hjk : k = j
  · subst hjk
    by_cases h : k < W <;> simp [h]
  · by_cases h : j < W
    · have : decide (j < k + 1) = decide (j < k) := by by_cases h1 : j < k <;> simp [h1] <;> omega
      simp [hjk, h, this]
    · simp [hjk, h]
theorem part_zero (W : Nat) (F : Nat → Bool) : part W 0 F = List.replicate W false := by
  apply List.ext_getElem?; intro j
  by_cases hj : j < W <;> simp [part, hj]
theorem part_cell {W k : Nat} {F : Nat → Bool} (h : k < W) : (part W k F)[k]? = some false := by simp [part, h]
theorem part_all (W : Nat) (F : Nat → Bool) : part W W F = (List.range W).map F := by
  apply List.ext_getElem?; intro j
  by_cases hj : j < W <;> simp [part, hj]

theorem refnot_any {w : World} {g c W : Nat} {l : List Bool} (h : Rd w g W l) (hW : W ≤ 128) :
    Calls Tryz.prog 96 #[.slice (some ⟨g, 0, none⟩) W c] w fun e w' => ∃ b, e = .returned (.slice (some ⟨b, 0, none⟩) W W) ∧ Bs w' w.heap.size (.slice (some ⟨b, 0, none⟩) W W) ((List.range W).map fun j => !l.getD j false) ∧ Below w.heap.size w w' := by
  have hmk := make_bools W hW
  obtain ⟨hl, hg, hc⟩ := h
  have HC : Hid _ := hc
  clear hc
  obtain ⟨F, hF⟩ : ∃ F : Nat → Bool, F = fun j => !l.getD j false := ⟨_, rfl⟩
  have HF : Hid (∀ j, F j = !l.getD j false) := fun j => by rw [hF]
  rw [← hF]
  clear hF
  go_enter Tryz.func96, Tryz.ntmps96
  go_wp2_with fail
  go_loopw [4] (fun i wr => ∃ k : Nat, k ≤ W ∧ i = .int .i64 k ∧ Bs wr w.heap.size (.slice (some ⟨w.heap.size, 0, none⟩) W W) (part W k F) ∧ Below w.heap.size w wr) (fun i _ => W - (intOf i).toNat)
  case atStart =>
    refine ⟨0, Nat.zero_le _, rfl, ?_, ?_⟩
    · rw [part_zero]; exact Bs.made W (Nat.le_refl _) (by omega)
    · go_grown
  case round =>
    obtain ⟨k, hk, rfl, hB, hbl⟩ := hrel
    have HB : Hid (Bs wr w.heap.size (.slice (some ⟨w.heap.size, 0, none⟩) W W) (part W k F)) := hB
    clear hB
    by_cases hlt : k < W
    · obtain ⟨v, hv⟩ : ∃ v, v = l.getD k false := ⟨_, rfl⟩
      have hck : wr.cell? ⟨g, k, none⟩ = some (.bool v) := by rw [hv, hbl.cell (p := ⟨g, k, none⟩) hg]; exact HC.out k hlt
      have hco : wr.cell? ⟨w.heap.size, k, none⟩ = some (.bool false) := Bs.cell HB.out (part_len W k F).symm (part_cell hlt)
      have hfo : wr.frozen? ⟨w.heap.size, k, none⟩ = false := Bs.frozen HB.out (part_len W k F).symm k
      have HV : Hid ((!v) = F k) := by unfold Hid; rw [HF.out k, hv]
      clear hv
      go_wp2_with fail
      refine ⟨⟨k + 1, by omega, by go_num, ?_, hbl.setCell (by simp) _⟩, by simp [intOf]; omega⟩
      rw [← part_put HV.out]; exact Bs.store HB.out (part_len W k F).symm k _
    · obtain rfl : k = W := by omega
      go_wp2_with fail
      go_ret
      refine ⟨_, rfl, ?_, hbl⟩
      rw [← part_all]; exact HB.out

/-- The carry ahead of bit k. -/
def car (a b : List Bool) (c : Bool) : Nat → Bool
  | 0 => c
  | k + 1 => (a.getD k false && b.getD k false) || (car a b c k && (a.getD k false || b.getD k false))
def sumb (a b : List Bool) (c : Bool) (k : Nat) : Bool := (a.getD k false != b.getD k false) != car a b c k

/-- The number of F's first k truths. -/
def pn (F : Nat → Bool) : Nat → Nat
  | 0 => 0
  | k + 1 => pn F k + (F k).toNat * 2 ^ k
theorem pn_congr {F G : Nat → Bool} : ∀ {k : Nat}, (∀ j, j < k → F j = G j) → pn F k = pn G k
  | 0, _ => rfl
  | k + 1, h => by rw [pn, pn, pn_congr (fun j hj => h j (by omega)), h k (by omega)]
theorem pn_cons (b : Bool) (F : Nat → Bool) : ∀ k, pn (fun j => match j with | 0 => b | j + 1 => F j) (k + 1) = b.toNat + 2 * pn F k
  | 0 => by simp [pn]
  | k + 1 => by rw [pn, pn_cons b F k, pn, Nat.pow_succ, Nat.mul_add]; simp only [Nat.add_assoc]; rw [Nat.mul_comm (2 ^ k) 2, Nat.mul_left_comm]
theorem nb_pn : ∀ l : List Bool, nb l = pn (fun j => l.getD j false) l.length
  | [] => rfl
  | b :: l => by
    rw [nb, nb_pn l, List.length_cons, ← pn_cons]
    exact pn_congr fun j _ => by cases j <;> rfl
theorem nb_map (W : Nat) (F : Nat → Bool) : nb ((List.range W).map F) = pn F W := by
  rw [nb_pn, List.length_map, List.length_range]
  exact pn_congr fun j hj => by simp [hj]
theorem pn_add (a b : List Bool) (c : Bool) : ∀ k, pn (sumb a b c) k + (car a b c k).toNat * 2 ^ k = pn (fun j => a.getD j false) k + pn (fun j => b.getD j false) k + c.toNat
  | 0 => by simp [pn, car]
  | k + 1 => by
    have ih := pn_add a b c k
    have e : (sumb a b c k).toNat + 2 * (car a b c (k + 1)).toNat = (a.getD k false).toNat + (b.getD k false).toNat + (car a b c k).toNat := by
      simp only [sumb, car]
      cases a.getD k false <;> cases b.getD k false <;> cases car a b c k <;> rfl
    simp only [pn, Nat.pow_succ]
    generalize 2 ^ k = P at *
    have h1 : (car a b c (k + 1)).toNat * (P * 2) = 2 * (car a b c (k + 1)).toNat * P := by rw [Nat.mul_comm P 2, ← Nat.mul_assoc, Nat.mul_comm _ 2]
    have h2 : ((sumb a b c k).toNat + 2 * (car a b c (k + 1)).toNat) * P = ((a.getD k false).toNat + (b.getD k false).toNat + (car a b c k).toNat) * P := by rw [e]
    simp only [Nat.add_mul] at h2
    rw [h1]
    omega
theorem nb_add {W : Nat} {a b : List Bool} {c : Bool} (ha : a.length = W) (hb : b.length = W) : nb ((List.range W).map (sumb a b c)) = (nb a + nb b + c.toNat) % 2 ^ W := by
  have h := pn_add a b c W
  have hl := nb_lt ((List.range W).map (sumb a b c))
  rw [List.length_map, List.length_range] at hl
  rw [nb_map] at hl ⊢
  rw [nb_pn a, nb_pn b, ha, hb, ← h, Nat.add_mul_mod_self_right, Nat.mod_eq_of_lt hl]

theorem refadd_any {w : World} {g g' c c' W : Nat} {a b : List Bool} {cy : Bool} (ha : Rd w g W a) (hb : Rd w g' W b) (hW : W ≤ 128) :
    Calls Tryz.prog 122 #[.slice (some ⟨g, 0, none⟩) W c, .slice (some ⟨g', 0, none⟩) W c', .bool cy] w fun e w' => ∃ r, e = .returned (.slice (some ⟨r, 0, none⟩) W W) ∧ Bs w' w.heap.size (.slice (some ⟨r, 0, none⟩) W W) ((List.range W).map (sumb a b cy)) ∧ Below w.heap.size w w' := by
  have hmk := make_bools W hW
  obtain ⟨hl, hg, hc⟩ := ha
  obtain ⟨hl', hg', hc'⟩ := hb
  have HC : Hid _ := hc
  have HC' : Hid _ := hc'
  clear hc hc' hl hl'
  go_enter Tryz.func122, Tryz.ntmps122
  go_wp2_with fail
  go_loopw [8, 2] (fun i d wr => ∃ k : Nat, k ≤ W ∧ i = .int .i64 k ∧ d = .bool (car a b cy k) ∧ Bs wr w.heap.size (.slice (some ⟨w.heap.size, 0, none⟩) W W) (part W k (sumb a b cy)) ∧ Below w.heap.size w wr) (fun i _ _ => W - (intOf i).toNat)
  case atStart =>
    refine ⟨0, Nat.zero_le _, rfl, rfl, ?_, ?_⟩
    · rw [part_zero]; exact Bs.made W (Nat.le_refl _) (by omega)
    · go_grown
  case round =>
    obtain ⟨k, hk, rfl, rfl, hB, hbl⟩ := hrel
    have HB : Hid (Bs wr w.heap.size (.slice (some ⟨w.heap.size, 0, none⟩) W W) (part W k (sumb a b cy))) := hB
    clear hB
    have hbs := hbl.size
    by_cases hlt : k < W
    · obtain ⟨v, hv⟩ : ∃ v, v = a.getD k false := ⟨_, rfl⟩
      obtain ⟨u, hu⟩ : ∃ u, u = b.getD k false := ⟨_, rfl⟩
      obtain ⟨y, hy⟩ : ∃ y, y = car a b cy k := ⟨_, rfl⟩
      have hck : wr.cell? ⟨g, k, none⟩ = some (.bool v) := by rw [hv, hbl.cell (p := ⟨g, k, none⟩) hg]; exact HC.out k hlt
      have hck' : wr.cell? ⟨g', k, none⟩ = some (.bool u) := by rw [hu, hbl.cell (p := ⟨g', k, none⟩) hg']; exact HC'.out k hlt
      have hco : wr.cell? ⟨w.heap.size, k, none⟩ = some (.bool false) := Bs.cell HB.out (part_len W k _).symm (part_cell hlt)
      have hfo : wr.frozen? ⟨w.heap.size, k, none⟩ = false := Bs.frozen HB.out (part_len W k _).symm k
      have HV : Hid (((v != u) != y) = sumb a b cy k) := by unfold Hid; rw [hv, hu, hy]; rfl
      have HY : Hid (car a b cy (k + 1) = ((v && u) || (y && (v || u)))) := by unfold Hid; rw [hv, hu, hy]; rfl
      have ne1 : ¬ (w.heap.size = g) := by omega
      have ne2 : ¬ (w.heap.size = g') := by omega
      rw [← hy]
      clear hv hu hy
      go_wp2_with fail
      go_region_held3 (fun x => x.cell? ⟨g, k, none⟩ = some (.bool v) ∧ x.cell? ⟨g', k, none⟩ = some (.bool u))
        ((refine ⟨?_, ?_⟩ <;> simp [go_sem, hck, hck', ne1, ne2]))
        (fail)
      have HB2 : Hid (Bs (wr.setCell ⟨w.heap.size, k, none⟩ (.bool ((v != u) != y))).drew w.heap.size (.slice (some ⟨w.heap.size, 0, none⟩) W W) (part W (k + 1) (sumb a b cy))) := by
        unfold Hid; rw [← part_put HV.out]; exact Bs.drew (Bs.store HB.out (part_len W k _).symm k _)
      have hb2 : Below w.heap.size w (wr.setCell ⟨w.heap.size, k, none⟩ (.bool ((v != u) != y))).drew := (hbl.setCell (by simp) _).drew
      clear HB hbl HV
      cases v <;> cases u <;> cases y
      all_goals
        go_wp2_with fail
        refine ⟨⟨k + 1, by omega, by go_num, by rw [HY.out]; rfl, HB2.out, hb2⟩, by simp [intOf]; omega⟩
    · obtain rfl : k = W := by omega
      go_wp2_with fail
      go_ret
      refine ⟨_, rfl, ?_, hbl⟩
      rw [← part_all]; exact HB.out
end Go.Proofs.YtnflphhckgeneaaGreat
