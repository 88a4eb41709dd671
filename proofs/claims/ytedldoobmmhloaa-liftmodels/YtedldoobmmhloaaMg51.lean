import Derived.Test.YtedldoobmmhloaaA
import Derived.Test.YtedldoobmmhloaaMg6
import Derived.Test.YtedldoobmmhloaaMg8
namespace Go.Proofs.Ytedldoobmmhloaa
open Go.RowKit
set_option linter.unusedSimpArgs false
set_option linter.unusedVariables false
theorem info4 : ∃ i, Try.prog.info? 4 = some i ∧ i.zero = some (.bool false) ∧ i.size = 1 ∧ i.bytes = 1 :=
 by
 have h : (Try.prog.info? 4).map (fun i => (i.zero, i.size, i.bytes)) = some (some (.bool false), 1, 1) := by kernel_rfl
 obtain ⟨i, hi, e⟩ := Option.map_eq_some_iff.1 h
 simp only [Prod.mk.injEq] at e
 exact ⟨i, hi, e.1, e.2.1, e.2.2⟩
theorem make_bools (W : Nat) (hW : W ≤ 128) (w : World) :
  (Instr.makeSlice 22 (.int .i64 W) (.int .i64 W)).run Try.prog w = .ok (.slice (some ⟨w.heap.size, 0, none⟩) W W) (w.alloc (.cells (Array.replicate W (.bool false)) 4)) := by
 obtain ⟨i, hi, hz, hs, hb⟩ := info4
 have h := run_make (P := Try.prog) w 22 4 i (.bool false) Try.underlying22 hi hz .i64 .i64 W W (by omega) (by omega) (by rw [hb]; omega) (by omega)
 rw [h, hs]
 have e : madeCells (Value.bool false).cells (W * 1) = Array.replicate W (.bool false) := by
  apply Array.ext'
  rw [show (Value.bool false).cells = #[.bool false] from rfl, toList_madeCells_one]; simp
 simp only [Int.toNat_natCast, e]
def wdt (w : Int) : Nat := (w.tmod 128).natAbs + 1
def num (lo hi : Int) : Nat := lo.toNat + 2 ^ 64 * hi.toNat
end Go.Proofs.Ytedldoobmmhloaa
namespace Go.Proofs.Ytedldoobmmhloaa
open Go.RowKit
set_option linter.unusedSimpArgs false
set_option linter.unusedVariables false
def nb : List Bool → Nat
 | [] => 0
 | b :: l => b.toNat + 2 * nb l
def bl (W n : Nat) : List Bool := (List.range W).map n.testBit
def bv (l : List Bool) : List Value := l.map Value.bool
theorem bv_get (l : List Bool) (j : Nat) : (bv l)[j]? = l[j]?.map Value.bool := by simp [bv]
def Bs (w : World) (base : Nat) (v : Value) (l : List Bool) : Prop := w.ownsRow base 4 1 v l.length (bv l)
theorem Bs.mono {w : World} {b b' : Nat} {v : Value} {l : List Bool} (h : Bs w b v l) (hb : b' ≤ b) : Bs w b' v l := by
 refine ⟨h.1, ?_⟩
 rcases h.2 with h | ⟨g, cap, cur, h1, h2, r⟩
 ·exact Or.inl h
 ·exact Or.inr ⟨g, cap, cur, h1, Nat.le_trans hb h2, r⟩
theorem Bs.cell {w : World} {base g cap n : Nat} {l : List Bool} (h : Bs w base (.slice (some ⟨g, 0, none⟩) n cap) l) (hn : n = l.length) {j : Nat} {b : Bool} (hj : l[j]? = some b) : w.cell? ⟨g, j, none⟩ = some (.bool b) := by
 subst hn
 have hlt : j < l.length := (List.getElem?_eq_some_iff.1 hj).1
 rw [World.ownsRow.cellAt h j (by omega), bv_get, hj]; rfl
theorem Bs.frozen {w : World} {base g cap n : Nat} {l : List Bool} (h : Bs w base (.slice (some ⟨g, 0, none⟩) n cap) l) (hn : n = l.length) (j : Nat) : w.frozen? ⟨g, j, none⟩ = false := by
 subst hn; exact World.ownsRow.frozenAt h j
theorem Bs.store {w : World} {base g cap n : Nat} {l : List Bool} (h : Bs w base (.slice (some ⟨g, 0, none⟩) n cap) l) (hn : n = l.length) (j : Nat) (b : Bool) : Bs (w.setCell ⟨g, j, none⟩ (.bool b)) base (.slice (some ⟨g, 0, none⟩) n cap) (l.set j b) := by
 subst hn
 have := (World.ownsRow.stored h j (.bool b)).1
 unfold Bs bv
 rw [List.length_set, List.map_set]
 exact this
theorem Bs.lt {w : World} {base g cap n : Nat} {l : List Bool} (h : Bs w base (.slice (some ⟨g, 0, none⟩) n cap) l) : base ≤ g ∧ g < w.heap.size :=
 World.ownsRow.lt h g rfl
theorem Bs.made {w : World} {base : Nat} (W : Nat) (hb : base ≤ w.heap.size) (hW : W ≤ 1000) : Bs (w.alloc (.cells (Array.replicate W (.bool false)) 4)) base (.slice (some ⟨w.heap.size, 0, none⟩) W W) (List.replicate W false) := by
 have h := World.ownsRow_lit (base := base) (e := 4) (size := 1) w (Array.replicate W (.bool false)) W hb (by unfold maxLen; omega) (by simp)
 unfold Bs bv
 simpa using h
theorem part_set {W n k : Nat} {v : Bool} (hv : v = n.testBit k) : ((List.range W).map fun j => decide (j < k) && n.testBit j).set k v = (List.range W).map fun j => decide (j < k + 1) && n.testBit j := by
 subst hv
 apply List.ext_getElem?
 intro j
 rw [List.getElem?_set]
 by_cases hjk : k = j
 ·subst hjk
  by_cases h : k < W <;> simp [h]
 ·by_cases h : j < W
  ·have : decide (j < k + 1) = decide (j < k) := by by_cases h1 : j < k <;> simp [h1] <;> omega
   simp [hjk, h, this]
  ·simp [hjk, h]
end Go.Proofs.Ytedldoobmmhloaa
namespace Go.Proofs.Ytedldoobmmhloaa
open Go.RowKit
set_option linter.unusedSimpArgs false
set_option linter.unusedVariables false
def bos (s : Int) : Int := if s = 0 then 1 else if 1 ≤ s ∧ s ≤ 128 then s else -1
theorem bos_any (s : Int) (w : World) :
  Calls Try.prog 21 #[.int .i64 s] w fun e w' => e = .returned (.int .i64 (bos s)) ∧ Below w.heap.size w w' := by
 unfold bos
 by_cases h0 : s = 0
 ·subst h0
  go_enter Try.func21, Try.ntmps21
  go_wp2_with fail
  go_ret
  exact ⟨rfl, by go_grown⟩
 ·rw [if_neg h0]
  by_cases h1 : 1 ≤ s
  ·by_cases h2 : s ≤ 128
   ·rw [if_pos ⟨h1, h2⟩]
    go_enter Try.func21, Try.ntmps21
    go_wp2_with fail
    go_ret
    exact ⟨rfl, by go_grown⟩
   ·rw [if_neg (fun h => h2 h.2)]
    go_enter Try.func21, Try.ntmps21
    go_wp2_with fail
    go_ret
    exact ⟨rfl, by go_grown⟩
  ·rw [if_neg (fun h => h1 h.1)]
   go_enter Try.func21, Try.ntmps21
   go_wp2_with fail
   go_ret
   exact ⟨rfl, by go_grown⟩
set_option maxHeartbeats 400000 in
theorem value_no {s : Int} {a : Option Addr} {n c : Nat} (h : ((n : Int) != bos s) = true) (w : World) :
  Calls Try.prog 6 #[.int .i64 s, .slice a n c] w fun e w' => e = .returned (.tuple #[.agg #[.int .i64 0, .int .u64 0, .int .u64 0], .int .i64 160]) ∧ Below w.heap.size w w' := by
 go_enter Try.func6, Try.ntmps6
 go_wp2_with fail
 refine (bos_any s _).mono ?_
 rintro e w1 ⟨rfl, hb1⟩
 have hb1' := below_step (w := w) (by go_grown) hb1
 have hs1 := hb1'.size
 have KF1 : w1.cell? ⟨w.heap.size, 0, none⟩ = some (cv w1 ⟨w.heap.size, 0, none⟩) ∧ w1.cell? ⟨w.heap.size, 1, none⟩ = some (cv w1 ⟨w.heap.size, 1, none⟩) ∧ w1.cell? ⟨w.heap.size, 2, none⟩ = some (cv w1 ⟨w.heap.size, 2, none⟩) ∧ (∀ o, w1.frozen? ⟨w.heap.size, o, none⟩ = false) := ⟨keep_some hb1 (by first | (simp [go_sem]; done)), keep_some hb1 (by first | (simp [go_sem]; done)), keep_some hb1 (by first | (simp [go_sem]; done)), keep_frozen2 hb1 (by first | (simp [go_sem]; done)) (by first | (simp [go_sem]; done))⟩; have KF1z0 : w.heap.size < w1.heap.size := World.block_lt_of_cell? _ _ KF1.1
 clear hb1
 go_wp2_with fail
 refine bodyPost_ret (v := .tuple #[.agg #[.int .i64 0, .int .u64 0, .int .u64 0], .int .i64 160]) (by simp [results, Try.results6, go_sem, *]) rfl ?_
 exact ⟨rfl, by go_grown⟩
set_option maxHeartbeats 1600000 in
theorem value_yes {s m n g o c : Nat} (hm : m = max s 1) (h2 : s ≤ 128) (hn : n < 2 ^ 128) (w : World) (hcell : ∀ j, j < m → w.cell? ⟨g, o + j, none⟩ = some (.bool (n.testBit j))) (hg : g < w.heap.size) :
  Calls Try.prog 6 #[.int .i64 (s : Int), .slice (some ⟨g, o, none⟩) m c] w fun e w' => e = .returned (.tuple #[.agg #[.int .i64 s, .int .u64 (LO (n % 2 ^ m)), .int .u64 (HI (n % 2 ^ m))], .int .i64 0]) ∧ Below w.heap.size w w' := by
 have hb : ((m : Int) != bos s) = false := by
  unfold bos
  rcases Nat.eq_zero_or_pos s with h0 | h0
  ·subst h0; subst hm; rfl
  ·rw [if_neg (by omega), if_pos (by omega), show m = s by omega]; simp
 have hm8 : m ≤ 128 := by omega
 have HC : Hid _ := hcell
 clear hcell hm h2
 go_enter Try.func6, Try.ntmps6
 go_wp2_with fail
 refine (bos_any s _).mono ?_
 rintro e w1 ⟨rfl, hb1⟩
 have hb1' := below_step (w := w) (by go_grown) hb1
 have hs1 := hb1'.size
 have KF1 : w1.cell? ⟨w.heap.size, 0, none⟩ = some (cv w1 ⟨w.heap.size, 0, none⟩) ∧ w1.cell? ⟨w.heap.size, 1, none⟩ = some (cv w1 ⟨w.heap.size, 1, none⟩) ∧ w1.cell? ⟨w.heap.size, 2, none⟩ = some (cv w1 ⟨w.heap.size, 2, none⟩) ∧ (∀ o, w1.frozen? ⟨w.heap.size, o, none⟩ = false) := ⟨keep_some hb1 (by first | (simp [go_sem]; done)), keep_some hb1 (by first | (simp [go_sem]; done)), keep_some hb1 (by first | (simp [go_sem]; done)), keep_frozen2 hb1 (by first | (simp [go_sem]; done)) (by first | (simp [go_sem]; done))⟩; have KF1z0 : w.heap.size < w1.heap.size := World.block_lt_of_cell? _ _ KF1.1
 clear hb1
 go_wp2_with fail
 go_loopw [16] (fun i wr => ∃ k : Nat, k ≤ m ∧ i = .int .i64 k ∧ (wr.cell? ⟨w1.heap.size, 0, none⟩ = some (.int .u64 (LO (n % 2 ^ k))) ∧ wr.cell? ⟨w1.heap.size, 1, none⟩ = some (.int .u64 (HI (n % 2 ^ k)))) ∧ (∃ a0 a1 a2, wr.cell? ⟨w.heap.size, 0, none⟩ = some a0 ∧ wr.cell? ⟨w.heap.size, 1, none⟩ = some a1 ∧ wr.cell? ⟨w.heap.size, 2, none⟩ = some a2) ∧ (∀ j, wr.frozen? ⟨w1.heap.size, j, none⟩ = false) ∧ (∀ j, wr.frozen? ⟨w.heap.size, j, none⟩ = false) ∧ Below w.heap.size w wr) (fun i _ => m - (intOf i).toNat)
 case atStart => 
  obtain ⟨e0, e1, e2, e3⟩ := KF1
  have hne : ¬ w.heap.size = w1.heap.size := by omega
  refine ⟨0, Nat.zero_le _, rfl, ⟨?_, ?_⟩, ⟨cv w1 ⟨w.heap.size, 0, none⟩, cv w1 ⟨w.heap.size, 1, none⟩, cv w1 ⟨w.heap.size, 2, none⟩, ?_, ?_, ?_⟩, ?_, ?_, by go_grown⟩
  ·simp [go_sem, Nat.mod_one, ← lo0]
  ·simp [go_sem, Nat.mod_one, ← hi0]
  ·rw [World.cell?_alloc_past _ _ _ (by omega)]; exact e0
  ·rw [World.cell?_alloc_past _ _ _ (by omega)]; exact e1
  ·rw [World.cell?_alloc_past _ _ _ (by omega)]; exact e2
  ·intro j; simp [go_sem]
  ·intro j; rw [World.frozen?_alloc_past _ _ _ (by omega)]; exact e3 j
 case round => 
  obtain ⟨k, hk, rfl, ⟨hc0, hc1⟩, ⟨a0, a1, a2, hr0, hr1, hr2⟩, hf1, hf0, hbl⟩ := hrel
  clear KF1
  by_cases hlt : k < m
  ·have hck : wr.cell? ⟨g, o + k, none⟩ = some (.bool (n.testBit k)) := (hbl.cell (p := ⟨g, o + k, none⟩) hg).trans (HC.out k hlt)
   cases hb : n.testBit k
   ·rw [hb] at hck
    have HN : Hid _ := word_no hb
    clear hb
    go_wp2_with fail
    refine ⟨⟨k + 1, by omega, by go_num, by rw [HN.out]; exact ⟨hc0, hc1⟩, ⟨a0, a1, a2, hr0, hr1, hr2⟩, hf1, hf0, hbl⟩, by simp [intOf]; omega⟩
   ·rw [hb] at hck
    by_cases h64 : (k : Int) < 64
    ·have HN : Hid _ := or_lo (n := n) (k := k) (by omega) hb
     have HM : Hid _ := or_lo_hi (n := n) (k := k) (by omega) hb
     have hq : (k : Int).tdiv 64 = 0 := by rw [Int.tdiv_eq_ediv_of_nonneg (by omega)]; omega
     have hp : (k : Int).tmod 64 = k := by rw [Int.tmod_eq_emod_of_nonneg (by omega)]; omega
     have hq' : (k : Int) / 64 = 0 := by omega
     have hp' : (k : Int) % 64 = k := by omega
     clear hb
     go_wp2_with fail
     go_region
     all_goals
      go_wp2_with fail
      refine ⟨⟨k + 1, by omega, by go_num, ⟨?_, ?_⟩, ⟨a0, a1, a2, ?_, ?_, ?_⟩, ?_, ?_, ?_⟩, by simp [intOf]; omega⟩
      ·exact (World.cell?_setCell_same _ _ _ hc0).trans (by rw [HN.out])
      ·exact (World.cell?_setCell_other _ _ _ _ (by simp)).trans (by rw [hc1, HM.out])
      ·exact (World.cell?_setCell_other _ _ _ _ (by simp)).trans hr0
      ·exact (World.cell?_setCell_other _ _ _ _ (by simp)).trans hr1
      ·exact (World.cell?_setCell_other _ _ _ _ (by simp)).trans hr2
      ·exact fun j => (World.frozen?_setCell ..).trans (hf1 j)
      ·exact fun j => (World.frozen?_setCell ..).trans (hf0 j)
      ·exact (hbl.setCell (by simp; omega) _).drew
    ·have HN : Hid _ := or_hi (n := n) (k := k) (by omega) (by omega) hn hb
     have HM : Hid _ := or_hi_lo (n := n) (k := k) (by omega) hb
     have hq : (k : Int).tdiv 64 = 1 := by rw [Int.tdiv_eq_ediv_of_nonneg (by omega)]; omega
     have hp : (k : Int).tmod 64 = ((k - 64 : Nat) : Int) := by rw [Int.tmod_eq_emod_of_nonneg (by omega)]; omega
     have hq' : (k : Int) / 64 = 1 := by omega
     have hp' : (k : Int) % 64 = ((k - 64 : Nat) : Int) := by omega
     clear hb
     go_wp2_with fail
     go_region
     all_goals
      go_wp2_with fail
      refine ⟨⟨k + 1, by omega, by go_num, ⟨?_, ?_⟩, ⟨a0, a1, a2, ?_, ?_, ?_⟩, ?_, ?_, ?_⟩, by simp [intOf]; omega⟩
      ·exact (World.cell?_setCell_other _ _ _ _ (by simp)).trans (by rw [hc0, HM.out])
      ·exact (World.cell?_setCell_same _ _ _ hc1).trans (by rw [HN.out])
      ·exact (World.cell?_setCell_other _ _ _ _ (by simp)).trans hr0
      ·exact (World.cell?_setCell_other _ _ _ _ (by simp)).trans hr1
      ·exact (World.cell?_setCell_other _ _ _ _ (by simp)).trans hr2
      ·exact fun j => (World.frozen?_setCell ..).trans (hf1 j)
      ·exact fun j => (World.frozen?_setCell ..).trans (hf0 j)
      ·exact (hbl.setCell (by simp; omega) _).drew
  ·obtain rfl : k = m := by omega
   have hne : ¬ w1.heap.size = w.heap.size := by omega
   go_wp2_with fail
   refine bodyPost_ret (v := .tuple #[.agg #[.int .i64 s, .int .u64 (LO (n % 2 ^ k)), .int .u64 (HI (n % 2 ^ k))], .int .i64 0]) (by simp [results, Try.results6, go_sem, hr0, hr1, hr2]) rfl ?_
   exact ⟨rfl, by go_grown⟩
end Go.Proofs.Ytedldoobmmhloaa
namespace Go.Proofs.Ytedldoobmmhloaa
open Go.RowKit
set_option linter.unusedSimpArgs false
set_option linter.unusedVariables false
set_option maxHeartbeats 1600000 in
theorem bitsOf_yes {s m n : Nat} (hm : m = max s 1) (h2 : s ≤ 128) (hn : n < 2 ^ 128) (HR : ∀ wx, Calls Try.prog 22 #[.agg #[.int .i64 s, .int .u64 (LO (n)), .int .u64 (HI (n))]] wx fun e w' => e = .returned (.bool true) ∧ Below wx.heap.size wx w') (w : World) :
  Calls Try.prog 11 #[.agg #[.int .i64 s, .int .u64 (LO (n)), .int .u64 (HI (n))]] w fun e w' => ∃ g, e = .returned (.slice (some ⟨g, 0, none⟩) m m) ∧ Bs w' w.heap.size (.slice (some ⟨g, 0, none⟩) m m) (bl m n) ∧ Below w.heap.size w w' := by
 have hbm : bos s = m := by
  unfold bos
  rcases Nat.eq_zero_or_pos s with h0 | h0
  ·subst h0; subst hm; rfl
  ·rw [if_neg (by omega), if_pos (by omega), show m = s by omega]
 have hm8 : m ≤ 128 := by omega
 have hm1 : 1 ≤ m := by omega
 have HBO : Hid (∀ wx, Calls Try.prog 21 #[.int .i64 (s : Int)] wx fun e w' => e = .returned (.int .i64 (m : Int)) ∧ Below wx.heap.size wx w') := fun wx => by rw [← hbm]; exact bos_any _ wx
 have HRH : Hid _ := HR
 have hmk := make_bools m hm8
 clear HR hm hbm
 go_enter Try.func11, Try.ntmps11
 go_wp2_with fail
 refine (HRH.out _).mono ?_
 rintro e w1 ⟨rfl, hb1⟩
 have hb1' := below_step (w := w) (by go_grown) hb1
 have hs1 := hb1'.size
 have KF1 : w1.cell? ⟨w.heap.size, 0, none⟩ = some (.int .i64 s) ∧ w1.cell? ⟨w.heap.size, 1, none⟩ = some (.int .u64 (LO (n))) ∧ w1.cell? ⟨w.heap.size, 2, none⟩ = some (.int .u64 (HI (n))) ∧ (∀ o, w1.frozen? ⟨w.heap.size, o, none⟩ = false) := ⟨keep_cell hb1 (by first | (simp [go_sem]; done)), keep_cell hb1 (by first | (simp [go_sem]; done)), keep_cell hb1 (by first | (simp [go_sem]; done)), keep_frozen2 hb1 (by first | (simp [go_sem]; done)) (by first | (simp [go_sem]; done))⟩; have KF1z0 : w.heap.size < w1.heap.size := World.block_lt_of_cell? _ _ KF1.1
 clear hb1
 go_wp2_with fail
 refine (HBO.out _).mono ?_
 rintro e w2 ⟨rfl, hb2⟩
 have hb2' := below_step (w := w) (by go_grown) hb2
 have hs2 := hb2'.size
 have KF2 : w2.cell? ⟨w.heap.size, 0, none⟩ = some (.int .i64 s) ∧ w2.cell? ⟨w.heap.size, 1, none⟩ = some (.int .u64 (LO (n))) ∧ w2.cell? ⟨w.heap.size, 2, none⟩ = some (.int .u64 (HI (n))) ∧ (∀ o, w2.frozen? ⟨w.heap.size, o, none⟩ = false) ∧ w2.cell? ⟨w1.heap.size, 0, none⟩ = some (.int .u64 (LO n)) ∧ w2.cell? ⟨w1.heap.size, 1, none⟩ = some (.int .u64 (HI n)) ∧ (∀ o, w2.frozen? ⟨w1.heap.size, o, none⟩ = false) := ⟨keep_cell hb2 (by first | (simp [go_sem]; done) | (simp [go_sem, KF1]; done) | (simp [go_sem, KF1, World.cell?_alloc_some]; done) | (simp [go_sem, KF1, frozen?_alloc_cells]; done)), keep_cell hb2 (by first | (simp [go_sem]; done) | (simp [go_sem, KF1]; done) | (simp [go_sem, KF1, World.cell?_alloc_some]; done) | (simp [go_sem, KF1, frozen?_alloc_cells]; done)), keep_cell hb2 (by first | (simp [go_sem]; done) | (simp [go_sem, KF1]; done) | (simp [go_sem, KF1, World.cell?_alloc_some]; done) | (simp [go_sem, KF1, frozen?_alloc_cells]; done)), keep_frozen2 hb2 (by first | (simp [go_sem]; done) | (simp [go_sem, KF1]; done) | (simp [go_sem, KF1, World.cell?_alloc_some]; done) | (simp [go_sem, KF1, frozen?_alloc_cells]; done)) (by first | (simp [go_sem]; done) | (simp [go_sem, KF1]; done) | (simp [go_sem, KF1, World.cell?_alloc_some]; done) | (simp [go_sem, KF1, frozen?_alloc_cells]; done)), keep_cell hb2 (by first | (simp [go_sem]; done) | (simp [go_sem, KF1]; done) | (simp [go_sem, KF1, World.cell?_alloc_some]; done) | (simp [go_sem, KF1, frozen?_alloc_cells]; done)), keep_cell hb2 (by first | (simp [go_sem]; done) | (simp [go_sem, KF1]; done) | (simp [go_sem, KF1, World.cell?_alloc_some]; done) | (simp [go_sem, KF1, frozen?_alloc_cells]; done)), keep_frozen2 hb2 (by first | (simp [go_sem]; done) | (simp [go_sem, KF1]; done) | (simp [go_sem, KF1, World.cell?_alloc_some]; done) | (simp [go_sem, KF1, frozen?_alloc_cells]; done)) (by first | (simp [go_sem]; done) | (simp [go_sem, KF1]; done) | (simp [go_sem, KF1, World.cell?_alloc_some]; done) | (simp [go_sem, KF1, frozen?_alloc_cells]; done))⟩; have KF2z0 : w.heap.size < w2.heap.size := World.block_lt_of_cell? _ _ KF2.1; have KF2z1 : w1.heap.size < w2.heap.size := World.block_lt_of_cell? _ _ KF2.2.2.2.2.1
 clear hb2 KF1
 go_wp2_with fail
 go_loopw [20] (fun i wr => ∃ k : Nat, k ≤ m ∧ i = .int .i64 k ∧ (wr.cell? ⟨w1.heap.size, 0, none⟩ = some (.int .u64 (LO n)) ∧ wr.cell? ⟨w1.heap.size, 1, none⟩ = some (.int .u64 (HI n))) ∧ Bs wr w2.heap.size (.slice (some ⟨w2.heap.size, 0, none⟩) m m) ((List.range m).map fun j => decide (j < k) && n.testBit j) ∧ Below w.heap.size w wr) (fun i _ => m - (intOf i).toNat)
 case atStart =>
  obtain ⟨-, -, -, -, e0, e1, -⟩ := KF2
  refine ⟨0, Nat.zero_le _, rfl, ⟨?_, ?_⟩, ?_, ?_⟩
  ·rw [World.cell?_alloc_past _ _ _ KF2z1]; exact e0
  ·rw [World.cell?_alloc_past _ _ _ KF2z1]; exact e1
  ·have h := Bs.made (w := w2) (base := w2.heap.size) m (Nat.le_refl _) (by omega)
   have e : (List.range m).map (fun j => decide (j < 0) && n.testBit j) = List.replicate m false := by
    apply List.ext_getElem?; intro j
    by_cases hj : j < m <;> simp [hj]
   rw [e]; exact h
  ·go_grown
 case round => 
  obtain ⟨k, hk, rfl, ⟨hc0, hc1⟩, hB, hbl⟩ := hrel
  have HB : Hid _ := hB
  by_cases hlt : k < m
  ·have hck : wr.cell? ⟨w2.heap.size, k, none⟩ = some (.bool false) := by
    have := Bs.cell hB (by simp) (j := k) (b := false) (by simp [hlt])
    exact this
   have hfr := Bs.frozen hB (by simp) k
   clear hB
   by_cases h64 : (k : Int) < 64
   ·have HV : Hid _ := bit_lo (n := n) (k := k) (by omega)
    have hq : (k : Int).tdiv 64 = 0 := by rw [Int.tdiv_eq_ediv_of_nonneg (by omega)]; omega
    have hp : (k : Int).tmod 64 = k := by rw [Int.tmod_eq_emod_of_nonneg (by omega)]; omega
    have hq' : (k : Int) / 64 = 0 := by omega
    have hp' : (k : Int) % 64 = k := by omega
    go_wp2_with fail
    refine ⟨⟨k + 1, by omega, by go_num, ⟨?_, ?_⟩, ?_, ?_⟩, by simp [intOf]; omega⟩
    ·exact (World.cell?_setCell_other _ _ _ _ (by simp)).trans hc0
    ·exact (World.cell?_setCell_other _ _ _ _ (by simp)).trans hc1
    ·rw [← part_set HV.out]; exact Bs.store HB.out (by simp) k _
    ·exact hbl.setCell (by simp; omega) _
   ·have HV : Hid _ := bit_hi (k := k) hn (by omega)
    have hq : (k : Int).tdiv 64 = 1 := by rw [Int.tdiv_eq_ediv_of_nonneg (by omega)]; omega
    have hp : (k : Int).tmod 64 = ((k - 64 : Nat) : Int) := by rw [Int.tmod_eq_emod_of_nonneg (by omega)]; omega
    have hq' : (k : Int) / 64 = 1 := by omega
    have hp' : (k : Int) % 64 = ((k - 64 : Nat) : Int) := by omega
    go_wp2_with fail
    refine ⟨⟨k + 1, by omega, by go_num, ⟨?_, ?_⟩, ?_, ?_⟩, by simp [intOf]; omega⟩
    ·exact (World.cell?_setCell_other _ _ _ _ (by simp)).trans hc0
    ·exact (World.cell?_setCell_other _ _ _ _ (by simp)).trans hc1
    ·rw [← part_set HV.out]; exact Bs.store HB.out (by simp) k _
    ·exact hbl.setCell (by simp; omega) _
  ·obtain rfl : k = m := by omega
   clear hB
   go_wp2_with fail
   go_ret
   refine ⟨_, rfl, ?_, hbl⟩
   have h := Bs.mono HB.out (b' := w.heap.size) (by omega)
   have e : (List.range k).map (fun j => decide (j < k) && n.testBit j) = bl k n := by
    apply List.ext_getElem?; intro j
    by_cases hj : j < k <;> simp [bl, hj]
   rw [e] at h; exact h
def Br (w : World) (a : Option Addr) (l : List Bool) : Prop := l = [] ∨ ∃ g o, a = some ⟨g, o, none⟩ ∧ g < w.heap.size ∧ ∀ j, j < l.length → w.cell? ⟨g, o + j, none⟩ = some (.bool (l.getD j false))
theorem Br.below {w w' : World} {a : Option Addr} {l : List Bool} (h : Br w a l) (hb : Below w.heap.size w w') : Br w' a l := by
 rcases h with h | ⟨g, o, h1, h2, h3⟩
 ·exact Or.inl h
 ·exact Or.inr ⟨g, o, h1, Nat.lt_of_lt_of_le h2 hb.size, fun j hj => (hb.cell (p := ⟨g, o + j, none⟩) h2).trans (h3 j hj)⟩
theorem Bs.br {w : World} {base g c W : Nat} {l : List Bool} (h : Bs w base (.slice (some ⟨g, 0, none⟩) W c) l) (hW : W = l.length) : Br w (some ⟨g, 0, none⟩) l :=
 Or.inr ⟨g, 0, rfl, (Bs.lt h).2, fun j hj => by rw [Nat.zero_add]; exact Bs.cell h hW (by simp [hj])⟩
set_option maxHeartbeats 1600000 in
theorem bools_same {w : World} {a b : Option Addr} {n c d : Nat} {l : List Bool} (ha : Br w a l) (hb : Br w b l) (hn : n = l.length) (hm : n ≤ 1000) :
  Calls Try.prog 8 #[.slice a n c, .slice b n d] w fun e w' => e = .returned (.bool true) ∧ Below w.heap.size w w' := by
 have HA : Hid (Br w a l) := ha
 have HB : Hid (Br w b l) := hb
 have HN : Hid (n = l.length) := hn
 clear ha hb hn
 go_enter Try.func8, Try.ntmps8
 go_wp2_with fail
 go_loopw [5] (fun i wr => ∃ k : Nat, k ≤ n ∧ i = .int .i64 k ∧ Below w.heap.size w wr) (fun i _ => n - (intOf i).toNat)
 case atStart => exact ⟨0, Nat.zero_le _, rfl, by go_grown⟩
 case round =>
  obtain ⟨k, hk, rfl, hbl⟩ := hrel
  by_cases hlt : k < n
  ·have hkl : k < l.length := by rw [← HN.out]; exact hlt
   have HA2 := HA.out.below hbl
   have HB2 := HB.out.below hbl
   rcases HA2 with h | ⟨g, o, rfl, hg, hc⟩
   ·subst h; simp at hkl
   rcases HB2 with h | ⟨g', o', rfl, hg', hc'⟩
   ·subst h; simp at hkl
   have h1 := hc k hkl
   have h2 := hc' k hkl
   obtain ⟨x, hx⟩ : ∃ x, l.getD k false = x := ⟨_, rfl⟩
   rw [hx] at h1 h2
   clear hc hc' HA HB hx HN hkl
   go_wp2_with fail
   go_region
   all_goals
    go_wp2_with fail
    exact ⟨⟨k + 1, by omega, by go_num, by go_grown⟩, by simp [intOf]; omega⟩
  ·obtain rfl : k = n := by omega
   go_wp2_with fail
   go_ret
   exact ⟨rfl, hbl⟩
end Go.Proofs.Ytedldoobmmhloaa
namespace Go.Proofs.Ytedldoobmmhloaa
open Go.RowKit
set_option linter.unusedSimpArgs false
set_option linter.unusedVariables false
theorem value_2 {g c : Nat} {w : World} (h0 : w.cell? ⟨g, 0, none⟩ = some (.bool true)) (h1 : w.cell? ⟨g, 1, none⟩ = some (.bool false)) (hg : g < w.heap.size) :
  Calls Try.prog 6 #[.int .i64 2, .slice (some ⟨g, 0, none⟩) 2 c] w fun e w' => e = .returned (.tuple #[.agg #[.int .i64 2, .int .u64 1, .int .u64 0], .int .i64 0]) ∧ Below w.heap.size w w' :=
 value_yes (s := 2) (m := 2) (n := 1) (o := 0) rfl (by omega) (by decide) w (fun j hj => by
  match j, hj with
  | 0, _ => exact h0
  | 1, _ => exact h1) hg
theorem value_0 {g c : Nat} {w : World} (h0 : w.cell? ⟨g, 0, none⟩ = some (.bool true)) (hg : g < w.heap.size) :
  Calls Try.prog 6 #[.int .i64 0, .slice (some ⟨g, 0, none⟩) 1 c] w fun e w' => e = .returned (.tuple #[.agg #[.int .i64 0, .int .u64 1, .int .u64 0], .int .i64 0]) ∧ Below w.heap.size w w' :=
 value_yes (s := 0) (m := 1) (n := 1) (o := 0) rfl (by omega) (by decide) w (fun j hj => by
  match j, hj with
  | 0, _ => exact h0) hg
theorem value_3 {a : Option Addr} {c : Nat} (w : World) :
  Calls Try.prog 6 #[.int .i64 3, .slice a 1 c] w fun e w' => e = .returned (.tuple #[.agg #[.int .i64 0, .int .u64 0, .int .u64 0], .int .i64 160]) ∧ Below w.heap.size w w' :=
 value_no (s := 3) (n := 1) rfl w
theorem bits_2 (w : World) :
  Calls Try.prog 11 #[.agg #[.int .i64 2, .int .u64 1, .int .u64 0]] w fun e w' => ∃ g, e = .returned (.slice (some ⟨g, 0, none⟩) 2 2) ∧ Bs w' w.heap.size (.slice (some ⟨g, 0, none⟩) 2 2) [true, false] ∧ Below w.heap.size w w' :=
 bitsOf_yes (s := 2) (m := 2) (n := 1) rfl (by omega) (by decide) (fun wx => right_all (A := 2) (lo := 1) (hi := 0) (by decide) (by decide) (by decide) (by decide) wx) w
set_option maxRecDepth 100000 in
set_option maxHeartbeats 3200000 in
theorem known16 (w : World) :
  Calls Try.prog 5 #[] w fun e w' => e = .returned (.bool true) ∧ Below w.heap.size w w' := by
 have hqe := eq_w
 go_enter Try.func5, Try.ntmps5
 go_wp2_with fail
 refine Calls.mono (value_2 (by simp [go_sem]) (by simp [go_sem]) (by simp)) ?_
 rintro e w1 ⟨rfl, hb1⟩
 go_wp2_with fail
 refine Calls.mono (value_0 (by simp [go_sem]) (by simp)) ?_
 rintro e w2 ⟨rfl, hb2⟩
 go_wp2_with fail
 refine Calls.mono (value_3 _) ?_
 rintro e w3 ⟨rfl, hb3⟩
 have s2 : w1.heap.size + 2 ≤ w2.heap.size := by have := hb2.size; simpa using this
 have s3 : w2.heap.size + 2 ≤ w3.heap.size := by have := hb3.size; simpa using this
 have F : (w3.cell? ⟨w1.heap.size, 0, none⟩ = some (.int .i64 2) ∧ w3.cell? ⟨w1.heap.size, 1, none⟩ = some (.int .u64 1) ∧ w3.cell? ⟨w1.heap.size, 2, none⟩ = some (.int .u64 0)) ∧
   (w3.cell? ⟨w2.heap.size, 0, none⟩ = some (.int .i64 0) ∧ w3.cell? ⟨w2.heap.size, 1, none⟩ = some (.int .u64 1) ∧ w3.cell? ⟨w2.heap.size, 2, none⟩ = some (.int .u64 0)) := by
  have P : ∀ j, w3.cell? ⟨w1.heap.size, j, none⟩ = (#[Value.int .i64 2, Value.int .u64 1, Value.int .u64 0] : Array Value)[j]? := fun j => by
   rw [hb3.cell (p := ⟨w1.heap.size, j, none⟩) (by simp; omega), World.cell?_alloc_past _ _ _ (by simp; omega), World.cell?_alloc_past _ _ _ (by omega), hb2.cell (p := ⟨w1.heap.size, j, none⟩) (by simp; omega), World.cell?_alloc_past _ _ _ (by simp), World.cell?_alloc_at _ _ _ _ rfl]
  have Q : ∀ j, w3.cell? ⟨w2.heap.size, j, none⟩ = (#[Value.int .i64 0, Value.int .u64 1, Value.int .u64 0] : Array Value)[j]? := fun j => by
   rw [hb3.cell (p := ⟨w2.heap.size, j, none⟩) (by simp; omega), World.cell?_alloc_past _ _ _ (by simp), World.cell?_alloc_at _ _ _ _ rfl]
  exact ⟨⟨P 0, P 1, P 2⟩, ⟨Q 0, Q 1, Q 2⟩⟩
 have s1 : w.heap.size + 1 ≤ w1.heap.size := by have := hb1.size; simpa using this
 have FB1 : Below w.heap.size w w1 := ((Below.refl w.heap.size w).alloc (Nat.le_refl _) _).trans (hb1.mono (by simp))
 have FB2 : Below w.heap.size w w2 := ((FB1.alloc (by omega) _).alloc (by simp; omega) _).trans (hb2.mono (by simp; omega))
 have FB : Below w.heap.size w w3 := ((FB2.alloc (by omega) _).alloc (by simp; omega) _).trans (hb3.mono (by simp; omega))
 have FS : w1.heap.size < w3.heap.size ∧ w2.heap.size < w3.heap.size := ⟨by omega, by omega⟩
 clear hb1 hb2 hb3
 go_wp2_with fail
 refine Calls.mono (bits_2 _) ?_
 rintro e w4 ⟨g, rfl, hB4, hb4⟩
 go_wp2_with fail
 have hl4 := (Bs.lt hB4).2
 refine Calls.mono (bools_same (l := [true, false]) ((Bs.br hB4 rfl).below ?_) (Or.inr ⟨w4.heap.size, 0, rfl, by simp, fun j hj => ?_⟩) rfl (by omega)) ?_
 ·go_grown
 ·match j, hj with
  | 0, _ => simp [go_sem]
  | 1, _ => simp [go_sem]
 rintro e w5 ⟨rfl, hb5⟩
 have z4 : w3.heap.size + 1 ≤ w4.heap.size := by have := hb4.size; simpa using this
 have z3 := FB.size
 have FB4 : Below w.heap.size w w4 := (FB.alloc z3 _).trans (hb4.mono (by simp; omega))
 have FB5 : Below w.heap.size w w5 := (FB4.alloc (by omega) _).trans (hb5.mono (by simp; omega))
 clear hb5 hb4 hB4
 go_wp2_with fail
 go_ret
 exact ⟨rfl, FB5⟩
end Go.Proofs.Ytedldoobmmhloaa
