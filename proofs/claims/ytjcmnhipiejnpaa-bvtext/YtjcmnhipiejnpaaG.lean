/- Contracts: the document's own words: bits of a value, a word of bits, a new word. -/
import Derived.Test.YtjcmnhipiejnpaaA
import Derived.Test.YtjcmnhipiejnpaaMath2
namespace Go.Proofs.Ytjcmnhipiejnpaa
open Go.RowKit
set_option linter.unusedSimpArgs false
set_option linter.unusedVariables false

theorem info4 : ∃ i, Try.prog.info? 4 = some i ∧ i.zero = some (.bool false) ∧ i.size = 1 ∧ i.bytes = 1 :=
  by
  have h : (Try.prog.info? 4).map (fun i => (i.zero, i.size, i.bytes)) = some (some (.bool false), 1, 1) := by kernel_rfl
  obtain ⟨i, hi, e⟩ := Option.map_eq_some_iff.1 h
  simp only [Prod.mk.injEq] at e
  exact ⟨i, hi, e.1, e.2.1, e.2.2⟩

theorem bits_put {wr : World} {g W n k : Nat} {v : Bool} (hv : v = n.testBit k) (hck : wr.cell? ⟨g, k, none⟩ = some (.bool (decide (k < k) && n.testBit k)))
    (h : ∀ j, j < W → wr.cell? ⟨g, j, none⟩ = some (.bool (decide (j < k) && n.testBit j))) :
    ∀ j, j < W → (wr.setCell ⟨g, k, none⟩ (.bool v)).cell? ⟨g, j, none⟩ = some (.bool (decide (j < k + 1) && n.testBit j)) := by
  intro j hj
  by_cases e : j = k
  · subst e
    rw [World.cell?_setCell_same _ _ _ hck, hv]; simp
  · rw [World.cell?_setCell_other _ _ _ _ (fun e3 => e (by injection e3 with _ e4; omega)), h j hj]
    have e2 : decide (j < k + 1) = decide (j < k) := by by_cases h1 : j < k <;> simp [h1] <;> omega
    rw [e2]

theorem make_bools (W : Nat) (hW : W ≤ 128) (w : World) :
    (Instr.makeSlice 59 (.int .i64 W) (.int .i64 W)).run Try.prog w = .ok (.slice (some ⟨w.heap.size, 0, none⟩) W W) (w.alloc (.cells (Array.replicate W (.bool false)) 4)) := by
  obtain ⟨i, hi, hz, hs, hb⟩ := info4
  have h := run_make (P := Try.prog) w 59 4 i (.bool false) Try.underlying59 hi hz .i64 .i64 W W (by omega) (by omega) (by rw [hb]; omega) (by omega)
  rw [h, hs]
  have e : madeCells (Value.bool false).cells (W * 1) = Array.replicate W (.bool false) := by
    apply Array.ext'
    rw [show (Value.bool false).cells = #[.bool false] from rfl, toList_madeCells_one]; simp
  simp only [Int.toNat_natCast, e]

set_option maxHeartbeats 400000 in
theorem bits_any {W n : Nat} {WW lo hi : Int} (h2 : W ≤ 128) (hn : n < 2 ^ 128) (hw : WW = W) (hl : lo = LO n) (hh : hi = HI n) (w : World) :
    Calls Try.prog 41 #[.agg #[.int .i64 WW, .int .u64 lo, .int .u64 hi]] w fun e w' => ∃ g, e = .returned (.slice (some ⟨g, 0, none⟩) W W) ∧ w.heap.size ≤ g ∧ (∀ j, j < W → w'.cell? ⟨g, j, none⟩ = some (.bool (n.testBit j))) ∧ Below w.heap.size w w' := by
  subst hw hl hh
  have hmk := make_bools W h2
  go_enter Try.func41, Try.ntmps41
  go_wp2_with fail
  go_loopw [4] (fun i wr => ∃ k : Nat, k ≤ W ∧ i = .int .i64 k ∧ (wr.cell? ⟨w.heap.size, 0, none⟩ = some (.int .i64 W) ∧ wr.cell? ⟨w.heap.size, 1, none⟩ = some (.int .u64 (LO n)) ∧ wr.cell? ⟨w.heap.size, 2, none⟩ = some (.int .u64 (HI n))) ∧ (∀ j, j < W → wr.cell? ⟨w.heap.size + 1, j, none⟩ = some (.bool (decide (j < k) && n.testBit j))) ∧ (∀ j, wr.frozen? ⟨w.heap.size + 1, j, none⟩ = false) ∧ Below w.heap.size w wr) (fun i _ => W - (intOf i).toNat)
  case atStart =>
    refine ⟨0, Nat.zero_le _, rfl, ⟨?_, ?_, ?_⟩, ?_, ?_, ?_⟩
    · simp [go_sem]
    · simp [go_sem]
    · simp [go_sem]
    · intro j hj; simp [go_sem, hj]
    · intro j; simp [go_sem]
    · go_grown
  case round =>
    obtain ⟨k, hk, rfl, hc, hcell, hfr, hbl⟩ := hrel
    by_cases hlt : k < W
    · have hck := hcell k hlt
      have HC : Hid _ := hcell
      clear hcell
      by_cases h64 : (k : Int) < 64
      · have HV : Hid _ := bit_lo (n := n) (k := k) (by omega)
        go_wp2_with fail
        refine ⟨⟨k + 1, by omega, by go_num, ⟨?_, ?_, ?_⟩, bits_put HV.out hck HC.out, ?_, ?_⟩, by simp [intOf]; omega⟩
        · rw [World.cell?_setCell_other _ _ _ _ (by simp)]; exact hc.1
        · rw [World.cell?_setCell_other _ _ _ _ (by simp)]; exact hc.2.1
        · rw [World.cell?_setCell_other _ _ _ _ (by simp)]; exact hc.2.2
        · intro j; rw [World.frozen?_setCell]; exact hfr j
        · exact hbl.setCell (by simp) _
      · have HV : Hid _ := bit_hi (k := k) hn (by omega)
        go_wp2_with fail
        refine ⟨⟨k + 1, by omega, by go_num, ⟨?_, ?_, ?_⟩, bits_put HV.out hck HC.out, ?_, ?_⟩, by simp [intOf]; omega⟩
        · rw [World.cell?_setCell_other _ _ _ _ (by simp)]; exact hc.1
        · rw [World.cell?_setCell_other _ _ _ _ (by simp)]; exact hc.2.1
        · rw [World.cell?_setCell_other _ _ _ _ (by simp)]; exact hc.2.2
        · intro j; rw [World.frozen?_setCell]; exact hfr j
        · exact hbl.setCell (by simp) _
    · obtain rfl : k = W := by omega
      have HC : Hid _ := hcell
      clear hcell
      go_wp2_with fail
      go_ret
      refine ⟨_, rfl, by omega, fun j hj => ?_, hbl⟩
      rw [HC.out j hj]; simp [hj]

set_option maxHeartbeats 400000 in
theorem word_any {W n g : Nat} (h2 : W ≤ 128) (hn : n < 2 ^ 128) (w : World) (hcell : ∀ j, j < W → w.cell? ⟨g, j, none⟩ = some (.bool (n.testBit j))) (hg : g < w.heap.size) :
    Calls Try.prog 40 #[.slice (some ⟨g, 0, none⟩) W W] w fun e w' => e = .returned (.agg #[.int .i64 W, .int .u64 (LO (n % 2 ^ W)), .int .u64 (HI (n % 2 ^ W))]) ∧ Below w.heap.size w w' := by
  have HC : Hid _ := hcell
  clear hcell
  go_enter Try.func40, Try.ntmps40
  go_wp2_with fail
  go_loopw [4] (fun i wr => ∃ k : Nat, k ≤ W ∧ i = .int .i64 k ∧ (wr.cell? ⟨w.heap.size + 1, 0, none⟩ = some (.int .i64 W) ∧ wr.cell? ⟨w.heap.size + 1, 1, none⟩ = some (.int .u64 (LO (n % 2 ^ k))) ∧ wr.cell? ⟨w.heap.size + 1, 2, none⟩ = some (.int .u64 (HI (n % 2 ^ k)))) ∧ (wr.cell? ⟨w.heap.size, 0, none⟩ = some (.int .i64 0) ∧ wr.cell? ⟨w.heap.size, 1, none⟩ = some (.int .u64 0) ∧ wr.cell? ⟨w.heap.size, 2, none⟩ = some (.int .u64 0)) ∧ (∀ j, wr.frozen? ⟨w.heap.size + 1, j, none⟩ = false) ∧ (∀ j, wr.frozen? ⟨w.heap.size, j, none⟩ = false) ∧ Below w.heap.size w wr) (fun i _ => W - (intOf i).toNat)
  case atStart =>
    refine ⟨0, Nat.zero_le _, rfl, ⟨?_, ?_, ?_⟩, ⟨?_, ?_, ?_⟩, ?_, ?_, ?_⟩
    · simp [go_sem]
    · simp [go_sem, Nat.mod_one, ← lo0]
    · simp [go_sem, Nat.mod_one, ← hi0]
    · simp [go_sem]
    · simp [go_sem]
    · simp [go_sem]
    · intro j; simp [go_sem]
    · intro j; simp [go_sem]
    · go_grown
  case round =>
    obtain ⟨k, hk, rfl, hc, hr, hf1, hf0, hbl⟩ := hrel
    by_cases hlt : k < W
    · have hck : wr.cell? ⟨g, k, none⟩ = some (.bool (n.testBit k)) := (hbl.cell (p := ⟨g, k, none⟩) hg).trans (HC.out k hlt)
      cases hb : n.testBit k
      · rw [hb] at hck
        have HN : Hid _ := word_no hb
        clear hb
        by_cases h64 : (k : Int) < 64
        all_goals
          go_wp2_with fail
          refine ⟨⟨k + 1, by omega, by go_num, by rw [HN.out]; exact hc, hr, hf1, hf0, hbl⟩, by simp [intOf]; omega⟩
      · rw [hb] at hck
        by_cases h64 : (k : Int) < 64
        · have HN : Hid _ := or_lo (n := n) (k := k) (by omega) hb
          have HM : Hid _ := or_lo_hi (n := n) (k := k) (by omega) hb
          clear hb
          go_wp2_with fail
          go_region
          all_goals
            go_wp2_with fail
            refine ⟨⟨k + 1, by omega, by go_num, ⟨?_, ?_, ?_⟩, ⟨?_, ?_, ?_⟩, ?_, ?_, ?_⟩, by simp [intOf]; omega⟩
            · exact (World.cell?_setCell_other _ _ _ _ (by simp)).trans hc.1
            · exact (World.cell?_setCell_same _ _ _ hc.2.1).trans (by rw [HN.out])
            · exact (World.cell?_setCell_other _ _ _ _ (by simp)).trans (by rw [hc.2.2, HM.out])
            · exact (World.cell?_setCell_other _ _ _ _ (by simp)).trans hr.1
            · exact (World.cell?_setCell_other _ _ _ _ (by simp)).trans hr.2.1
            · exact (World.cell?_setCell_other _ _ _ _ (by simp)).trans hr.2.2
            · exact fun j => (World.frozen?_setCell ..).trans (hf1 j)
            · exact fun j => (World.frozen?_setCell ..).trans (hf0 j)
            · exact (hbl.setCell (by simp) _).drew
        · have HN : Hid _ := or_hi (n := n) (k := k) (by omega) (by omega) hn hb
          have HM : Hid _ := or_hi_lo (n := n) (k := k) (by omega) hb
          clear hb
          go_wp2_with fail
          go_region
          all_goals
            go_wp2_with fail
            refine ⟨⟨k + 1, by omega, by go_num, ⟨?_, ?_, ?_⟩, ⟨?_, ?_, ?_⟩, ?_, ?_, ?_⟩, by simp [intOf]; omega⟩
            · exact (World.cell?_setCell_other _ _ _ _ (by simp)).trans hc.1
            · exact (World.cell?_setCell_other _ _ _ _ (by simp)).trans (by rw [hc.2.1, HM.out])
            · exact (World.cell?_setCell_same _ _ _ hc.2.2).trans (by rw [HN.out])
            · exact (World.cell?_setCell_other _ _ _ _ (by simp)).trans hr.1
            · exact (World.cell?_setCell_other _ _ _ _ (by simp)).trans hr.2.1
            · exact (World.cell?_setCell_other _ _ _ _ (by simp)).trans hr.2.2
            · exact fun j => (World.frozen?_setCell ..).trans (hf1 j)
            · exact fun j => (World.frozen?_setCell ..).trans (hf0 j)
            · exact (hbl.setCell (by simp) _).drew
    · obtain rfl : k = W := by omega
      go_wp2_with fail
      refine bodyPost_ret (v := .agg #[.int .i64 k, .int .u64 (LO (n % 2 ^ k)), .int .u64 (HI (n % 2 ^ k))]) (by simp [results, Try.results40, go_sem, hr]) rfl ?_
      exact ⟨rfl, by go_grown⟩

set_option maxHeartbeats 400000 in
theorem refnew_any {W n : Nat} {WW lo hi : Int} (h1 : 1 ≤ W) (h2 : W ≤ 128) (hn : n < 2 ^ 128) (hw : WW = W) (hl : lo = LO n) (hh : hi = HI n) (w : World) :
    Calls Try.prog 16 #[.int .i64 WW, .int .u64 lo, .int .u64 hi] w fun e w' => e = .returned (.tuple #[.agg #[.int .i64 W, .int .u64 (LO (n % 2 ^ W)), .int .u64 (HI (n % 2 ^ W))], .int .i64 0]) ∧ Below w.heap.size w w' := by
  subst hw hl hh
  go_enter Try.func16, Try.ntmps16
  go_wp2_with fail
  refine (bits_any (W := W) (n := n) h2 hn rfl rfl rfl _).mono ?_
  rintro e w1 ⟨g, rfl, hg, hcell, hb⟩
  have hg2 : 0 < W → g < w1.heap.size := fun h => World.block_lt_of_cell? _ _ (hcell 0 h)
  have hb' := below_step (w := w) (by go_grown) hb
  have hs1 := hb'.size
  have HC : Hid _ := hcell
  have KF1 : w1.cell? ⟨w.heap.size, 0, none⟩ = some (.int .i64 0) ∧ w1.cell? ⟨w.heap.size, 1, none⟩ = some (.int .u64 0) ∧ w1.cell? ⟨w.heap.size, 2, none⟩ = some (.int .u64 0) ∧ (∀ o, w1.frozen? ⟨w.heap.size, o, none⟩ = false) :=
    ⟨keep_cell hb (by simp [go_sem]), keep_cell hb (by simp [go_sem]), keep_cell hb (by simp [go_sem]), keep_frozen2 hb (by simp [go_sem]) (by simp [go_sem])⟩
  clear hcell hb
  go_wp2_with fail
  refine (word_any (W := W) (n := n) h2 hn _ HC.out (hg2 (by omega))).mono ?_
  rintro e w2 ⟨rfl, hb2⟩
  have hb2' := below_step (w := w) (by go_grown) hb2
  have KF2 : w2.cell? ⟨w.heap.size, 0, none⟩ = some (.int .i64 0) ∧ w2.cell? ⟨w.heap.size, 1, none⟩ = some (.int .u64 0) ∧ w2.cell? ⟨w.heap.size, 2, none⟩ = some (.int .u64 0) ∧ (∀ o, w2.frozen? ⟨w.heap.size, o, none⟩ = false) :=
    ⟨keep_cell hb2 KF1.1, keep_cell hb2 KF1.2.1, keep_cell hb2 KF1.2.2.1, keep_frozen2 hb2 (by rw [KF1.1]; rfl) KF1.2.2.2⟩
  clear hb2 KF1
  go_wp2_with fail
  refine bodyPost_ret (v := .tuple #[.agg #[.int .i64 W, .int .u64 (LO (n % 2 ^ W)), .int .u64 (HI (n % 2 ^ W))], .int .i64 0]) (by simp [results, Try.results16, go_sem, *]) rfl ?_
  exact ⟨rfl, by go_grown⟩

/-- The width that a word is given. -/
def wdt (w : Int) : Nat := (w.tmod 128).natAbs + 1
theorem wdt_le (w : Int) : wdt w ≤ 128 := by
  unfold wdt
  have := Int.natAbs_tmod w 128
  rw [this]
  have : w.natAbs % 128 < 128 := Nat.mod_lt _ (by decide)
  simp; omega

/-- A word out of any numbers. -/
def num (lo hi : Int) : Nat := lo.toNat + 2 ^ 64 * hi.toNat
theorem num_lo {lo hi : Int} (h0 : 0 ≤ lo) (h1 : lo < 18446744073709551616) : lo = LO (num lo hi) := by
  unfold LO num; omega
theorem num_hi {lo hi : Int} (h0 : 0 ≤ lo) (h1 : lo < 18446744073709551616) (h2 : 0 ≤ hi) : hi = HI (num lo hi) := by
  unfold HI num; omega
theorem num_lt {lo hi : Int} (h0 : 0 ≤ lo) (h1 : lo < 18446744073709551616) (h2 : 0 ≤ hi) (h3 : hi < 18446744073709551616) : num lo hi < 2 ^ 128 := by
  unfold num; omega

set_option maxHeartbeats 400000 in
theorem lawword_any {n : Nat} {v lo hi : Int} (hn : n < 2 ^ 128) (hl : lo = LO n) (hh : hi = HI n) (_hv0 : -9223372036854775808 ≤ v) (_hv1 : v ≤ 9223372036854775807) (w : World) :
    Calls Try.prog 33 #[.int .i64 v, .int .u64 lo, .int .u64 hi] w fun e w' => e = .returned (.agg #[.int .i64 ((wdt v : Nat) : Int), .int .u64 (LO (n % 2 ^ wdt v)), .int .u64 (HI (n % 2 ^ wdt v))]) ∧ Below w.heap.size w w' := by
  subst hl hh
  have hw1 : 1 ≤ wdt v := by unfold wdt; omega
  have hw2 := wdt_le v
  by_cases h : v.tmod 128 < 0
  · have e : -(v.tmod 128) + 1 = ((wdt v : Nat) : Int) := by unfold wdt; omega
    have HE : Hid _ := e
    have hb1 : -128 < v.tmod 128 := by have := wdt_le v; unfold wdt at this; omega
    clear e
    go_enter Try.func33, Try.ntmps33
    go_wp2_with fail
    refine (refnew_any hw1 hw2 hn HE.out rfl rfl _).mono ?_
    rintro e w1 ⟨rfl, hb1⟩
    have hb1' := below_step (w := w) (by go_grown) hb1
    have hs1 := hb1'.size
    have KF1 : w1.cell? ⟨w.heap.size, 0, none⟩ = some (cv w1 ⟨w.heap.size, 0, none⟩) ∧ w1.cell? ⟨w.heap.size, 1, none⟩ = some (cv w1 ⟨w.heap.size, 1, none⟩) ∧ w1.cell? ⟨w.heap.size, 2, none⟩ = some (cv w1 ⟨w.heap.size, 2, none⟩) ∧ (∀ o, w1.frozen? ⟨w.heap.size, o, none⟩ = false) := ⟨keep_some hb1 (by first | (simp [go_sem]; done)), keep_some hb1 (by first | (simp [go_sem]; done)), keep_some hb1 (by first | (simp [go_sem]; done)), keep_frozen2 hb1 (by first | (simp [go_sem]; done)) (by first | (simp [go_sem]; done))⟩; have KF1z0 : w.heap.size < w1.heap.size := World.block_lt_of_cell? _ _ KF1.1
    clear hb1
    go_wp2_with fail
    refine bodyPost_ret (v := .agg #[.int .i64 ((wdt v : Nat) : Int), .int .u64 (LO (n % 2 ^ wdt v)), .int .u64 (HI (n % 2 ^ wdt v))]) (by simp [results, Try.results33, go_sem, *]) rfl ?_
    exact ⟨rfl, by go_grown⟩
  · have e : v.tmod 128 + 1 = ((wdt v : Nat) : Int) := by unfold wdt; omega
    have HE : Hid _ := e
    have hb1 : v.tmod 128 < 128 := by have := wdt_le v; unfold wdt at this; omega
    clear e
    go_enter Try.func33, Try.ntmps33
    go_wp2_with fail
    refine (refnew_any hw1 hw2 hn HE.out rfl rfl _).mono ?_
    rintro e w1 ⟨rfl, hb1⟩
    have hb1' := below_step (w := w) (by go_grown) hb1
    have hs1 := hb1'.size
    have KF1 : w1.cell? ⟨w.heap.size, 0, none⟩ = some (cv w1 ⟨w.heap.size, 0, none⟩) ∧ w1.cell? ⟨w.heap.size, 1, none⟩ = some (cv w1 ⟨w.heap.size, 1, none⟩) ∧ w1.cell? ⟨w.heap.size, 2, none⟩ = some (cv w1 ⟨w.heap.size, 2, none⟩) ∧ (∀ o, w1.frozen? ⟨w.heap.size, o, none⟩ = false) := ⟨keep_some hb1 (by first | (simp [go_sem]; done)), keep_some hb1 (by first | (simp [go_sem]; done)), keep_some hb1 (by first | (simp [go_sem]; done)), keep_frozen2 hb1 (by first | (simp [go_sem]; done)) (by first | (simp [go_sem]; done))⟩; have KF1z0 : w.heap.size < w1.heap.size := World.block_lt_of_cell? _ _ KF1.1
    clear hb1
    go_wp2_with fail
    refine bodyPost_ret (v := .agg #[.int .i64 ((wdt v : Nat) : Int), .int .u64 (LO (n % 2 ^ wdt v)), .int .u64 (HI (n % 2 ^ wdt v))]) (by simp [results, Try.results33, go_sem, *]) rfl ?_
    exact ⟨rfl, by go_grown⟩
end Go.Proofs.Ytjcmnhipiejnpaa
