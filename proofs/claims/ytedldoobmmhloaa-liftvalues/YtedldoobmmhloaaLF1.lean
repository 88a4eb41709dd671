/- Contracts: lift's values out of bits. -/
import Derived.Test.YtedldoobmmhloaaU1
namespace Go.Proofs.Ytedldoobmmhloaa
open Go.RowKit
set_option linter.unusedSimpArgs false
set_option linter.unusedVariables false

/-- How many bits a sort has (none: -1). -/
def bos (s : Int) : Int := if s = 0 then 1 else if 1 ≤ s ∧ s ≤ 128 then s else -1
theorem bos_any (s : Int) (w : World) :
    Calls Try.prog 21 #[.int .i64 s] w fun e w' => e = .returned (.int .i64 (bos s)) ∧ Below w.heap.size w w' := by
  unfold bos
  by_cases h0 : s = 0
  · subst h0
    go_enter Try.func21, Try.ntmps21
    go_wp2_with fail
    go_ret
    exact ⟨rfl, by go_grown⟩
  · rw [if_neg h0]
    by_cases h1 : 1 ≤ s
    · by_cases h2 : s ≤ 128
      · rw [if_pos ⟨h1, h2⟩]
        go_enter Try.func21, Try.ntmps21
        go_wp2_with fail
        go_ret
        exact ⟨rfl, by go_grown⟩
      · rw [if_neg (fun h => h2 h.2)]
        go_enter Try.func21, Try.ntmps21
        go_wp2_with fail
        go_ret
        exact ⟨rfl, by go_grown⟩
    · rw [if_neg (fun h => h1 h.1)]
      go_enter Try.func21, Try.ntmps21
      go_wp2_with fail
      go_ret
      exact ⟨rfl, by go_grown⟩

set_option maxHeartbeats 400000 in
theorem value_no {s : Int} {a : Option Addr} {n c : Nat} (h : ((n : Int) != bos s) = true) (w : World) :
    Calls Try.prog 6 #[.int .i64 s, .slice a n c] w fun e w' => e = .returned (.tuple #[.agg #[.int .i64 0, .int .u64 0, .int .u64 0], .int .i64 160]) ∧ Below w.heap.size w w' := by
  go_enter Try.func6, Try.ntmps6
  go_wp2_with fail
  refine (bos_any s _).mono ?_
  rintro e w1 ⟨rfl, hb1⟩
  have hb1' := below_step (w := w) (by go_grown) hb1
  have hs1 := hb1'.size
  have KF1 : w1.cell? ⟨w.heap.size, 0, none⟩ = some (cv w1 ⟨w.heap.size, 0, none⟩) ∧ w1.cell? ⟨w.heap.size, 1, none⟩ = some (cv w1 ⟨w.heap.size, 1, none⟩) ∧ w1.cell? ⟨w.heap.size, 2, none⟩ = some (cv w1 ⟨w.heap.size, 2, none⟩) ∧ (∀ o, w1.frozen? ⟨w.heap.size, o, none⟩ = false) := ⟨keep_some hb1 (by first | (simp [go_sem]; done)), keep_some hb1 (by first | (simp [go_sem]; done)), keep_some hb1 (by first | (simp [go_sem]; done)), keep_frozen2 hb1 (by first | (simp [go_sem]; done)) (by first | (simp [go_sem]; done))⟩; have KF1z0 : w.heap.size < w1.heap.size := World.block_lt_of_cell? _ _ KF1.1
  clear hb1
  go_wp2_with fail
  refine bodyPost_ret (v := .tuple #[.agg #[.int .i64 0, .int .u64 0, .int .u64 0], .int .i64 160]) (by simp [results, Try.results6, go_sem, *]) rfl ?_
  exact ⟨rfl, by go_grown⟩

set_option maxHeartbeats 1600000 in
theorem value_yes {s m n g o c : Nat} (hm : m = max s 1) (h2 : s ≤ 128) (hn : n < 2 ^ 128) (w : World) (hcell : ∀ j, j < m → w.cell? ⟨g, o + j, none⟩ = some (.bool (n.testBit j))) (hg : g < w.heap.size) :
    Calls Try.prog 6 #[.int .i64 (s : Int), .slice (some ⟨g, o, none⟩) m c] w fun e w' => e = .returned (.tuple #[.agg #[.int .i64 s, .int .u64 (LO (n % 2 ^ m)), .int .u64 (HI (n % 2 ^ m))], .int .i64 0]) ∧ Below w.heap.size w w' := by
  have hb : ((m : Int) != bos s) = false := by
    unfold bos
    rcases Nat.eq_zero_or_pos s with h0 | h0
    · subst h0; subst hm; rfl
    · rw [if_neg (by omega), if_pos (by omega), show m = s by omega]; simp
  have hm8 : m ≤ 128 := by omega
  have HC : Hid _ := hcell
  clear hcell hm h2
  go_enter Try.func6, Try.ntmps6
  go_wp2_with fail
  refine (bos_any s _).mono ?_
  rintro e w1 ⟨rfl, hb1⟩
  have hb1' := below_step (w := w) (by go_grown) hb1
  have hs1 := hb1'.size
  have KF1 : w1.cell? ⟨w.heap.size, 0, none⟩ = some (cv w1 ⟨w.heap.size, 0, none⟩) ∧ w1.cell? ⟨w.heap.size, 1, none⟩ = some (cv w1 ⟨w.heap.size, 1, none⟩) ∧ w1.cell? ⟨w.heap.size, 2, none⟩ = some (cv w1 ⟨w.heap.size, 2, none⟩) ∧ (∀ o, w1.frozen? ⟨w.heap.size, o, none⟩ = false) := ⟨keep_some hb1 (by first | (simp [go_sem]; done)), keep_some hb1 (by first | (simp [go_sem]; done)), keep_some hb1 (by first | (simp [go_sem]; done)), keep_frozen2 hb1 (by first | (simp [go_sem]; done)) (by first | (simp [go_sem]; done))⟩; have KF1z0 : w.heap.size < w1.heap.size := World.block_lt_of_cell? _ _ KF1.1
  clear hb1
  go_wp2_with fail
  go_loopw [16] (fun i wr => ∃ k : Nat, k ≤ m ∧ i = .int .i64 k ∧ (wr.cell? ⟨w1.heap.size, 0, none⟩ = some (.int .u64 (LO (n % 2 ^ k))) ∧ wr.cell? ⟨w1.heap.size, 1, none⟩ = some (.int .u64 (HI (n % 2 ^ k)))) ∧ (∃ a0 a1 a2, wr.cell? ⟨w.heap.size, 0, none⟩ = some a0 ∧ wr.cell? ⟨w.heap.size, 1, none⟩ = some a1 ∧ wr.cell? ⟨w.heap.size, 2, none⟩ = some a2) ∧ (∀ j, wr.frozen? ⟨w1.heap.size, j, none⟩ = false) ∧ (∀ j, wr.frozen? ⟨w.heap.size, j, none⟩ = false) ∧ Below w.heap.size w wr) (fun i _ => m - (intOf i).toNat)
  case atStart => 
    obtain ⟨e0, e1, e2, e3⟩ := KF1
    have hne : ¬ w.heap.size = w1.heap.size := by omega
    refine ⟨0, Nat.zero_le _, rfl, ⟨?_, ?_⟩, ⟨cv w1 ⟨w.heap.size, 0, none⟩, cv w1 ⟨w.heap.size, 1, none⟩, cv w1 ⟨w.heap.size, 2, none⟩, ?_, ?_, ?_⟩, ?_, ?_, by go_grown⟩
    · simp [go_sem, Nat.mod_one, ← lo0]
    · simp [go_sem, Nat.mod_one, ← hi0]
    · rw [World.cell?_alloc_past _ _ _ (by omega)]; exact e0
    · rw [World.cell?_alloc_past _ _ _ (by omega)]; exact e1
    · rw [World.cell?_alloc_past _ _ _ (by omega)]; exact e2
    · intro j; simp [go_sem]
    · intro j; rw [World.frozen?_alloc_past _ _ _ (by omega)]; exact e3 j
  case round => 
    obtain ⟨k, hk, rfl, ⟨hc0, hc1⟩, ⟨a0, a1, a2, hr0, hr1, hr2⟩, hf1, hf0, hbl⟩ := hrel
    clear KF1
    by_cases hlt : k < m
    · have hck : wr.cell? ⟨g, o + k, none⟩ = some (.bool (n.testBit k)) := (hbl.cell (p := ⟨g, o + k, none⟩) hg).trans (HC.out k hlt)
      cases hb : n.testBit k
      · rw [hb] at hck
        have HN : Hid _ := word_no hb
        clear hb
        go_wp2_with fail
        refine ⟨⟨k + 1, by omega, by go_num, by rw [HN.out]; exact ⟨hc0, hc1⟩, ⟨a0, a1, a2, hr0, hr1, hr2⟩, hf1, hf0, hbl⟩, by simp [intOf]; omega⟩
      · rw [hb] at hck
        by_cases h64 : (k : Int) < 64
        · have HN : Hid _ := or_lo (n := n) (k := k) (by omega) hb
          have HM : Hid _ := or_lo_hi (n := n) (k := k) (by omega) hb
          have hq : (k : Int).tdiv 64 = 0 := by rw [Int.tdiv_eq_ediv_of_nonneg (by omega)]; omega
          have hp : (k : Int).tmod 64 = k := by rw [Int.tmod_eq_emod_of_nonneg (by omega)]; omega
          have hq' : (k : Int) / 64 = 0 := by omega
          have hp' : (k : Int) % 64 = k := by omega
          clear hb
          go_wp2_with fail
          go_region
          all_goals
            go_wp2_with fail
            refine ⟨⟨k + 1, by omega, by go_num, ⟨?_, ?_⟩, ⟨a0, a1, a2, ?_, ?_, ?_⟩, ?_, ?_, ?_⟩, by simp [intOf]; omega⟩
            · exact (World.cell?_setCell_same _ _ _ hc0).trans (by rw [HN.out])
            · exact (World.cell?_setCell_other _ _ _ _ (by simp)).trans (by rw [hc1, HM.out])
            · exact (World.cell?_setCell_other _ _ _ _ (by simp)).trans hr0
            · exact (World.cell?_setCell_other _ _ _ _ (by simp)).trans hr1
            · exact (World.cell?_setCell_other _ _ _ _ (by simp)).trans hr2
            · exact fun j => (World.frozen?_setCell ..).trans (hf1 j)
            · exact fun j => (World.frozen?_setCell ..).trans (hf0 j)
            · exact (hbl.setCell (by simp; omega) _).drew
        · have HN : Hid _ := or_hi (n := n) (k := k) (by omega) (by omega) hn hb
          have HM : Hid _ := or_hi_lo (n := n) (k := k) (by omega) hb
          have hq : (k : Int).tdiv 64 = 1 := by rw [Int.tdiv_eq_ediv_of_nonneg (by omega)]; omega
          have hp : (k : Int).tmod 64 = ((k - 64 : Nat) : Int) := by rw [Int.tmod_eq_emod_of_nonneg (by omega)]; omega
          have hq' : (k : Int) / 64 = 1 := by omega
          have hp' : (k : Int) % 64 = ((k - 64 : Nat) : Int) := by omega
          clear hb
          go_wp2_with fail
          go_region
          all_goals
            go_wp2_with fail
            refine ⟨⟨k + 1, by omega, by go_num, ⟨?_, ?_⟩, ⟨a0, a1, a2, ?_, ?_, ?_⟩, ?_, ?_, ?_⟩, by simp [intOf]; omega⟩
            · exact (World.cell?_setCell_other _ _ _ _ (by simp)).trans (by rw [hc0, HM.out])
            · exact (World.cell?_setCell_same _ _ _ hc1).trans (by rw [HN.out])
            · exact (World.cell?_setCell_other _ _ _ _ (by simp)).trans hr0
            · exact (World.cell?_setCell_other _ _ _ _ (by simp)).trans hr1
            · exact (World.cell?_setCell_other _ _ _ _ (by simp)).trans hr2
            · exact fun j => (World.frozen?_setCell ..).trans (hf1 j)
            · exact fun j => (World.frozen?_setCell ..).trans (hf0 j)
            · exact (hbl.setCell (by simp; omega) _).drew
    · obtain rfl : k = m := by omega
      have hne : ¬ w1.heap.size = w.heap.size := by omega
      go_wp2_with fail
      refine bodyPost_ret (v := .tuple #[.agg #[.int .i64 s, .int .u64 (LO (n % 2 ^ k)), .int .u64 (HI (n % 2 ^ k))], .int .i64 0]) (by simp [results, Try.results6, go_sem, hr0, hr1, hr2]) rfl ?_
      exact ⟨rfl, by go_grown⟩
end Go.Proofs.Ytedldoobmmhloaa
