/- Contracts: lift's bits of a value; lists of truths compared. -/
import Derived.Test.YtedldoobmmhloaaLF1
namespace Go.Proofs.Ytedldoobmmhloaa
open Go.RowKit
set_option linter.unusedSimpArgs false
set_option linter.unusedVariables false

set_option maxHeartbeats 400000 in
theorem bitsOf_no {A l h : Int} (HR : ∀ wx, Calls Try.prog 22 #[.agg #[.int .i64 A, .int .u64 l, .int .u64 h]] wx fun e w' => e = .returned (.bool false) ∧ Below wx.heap.size wx w') (w : World) :
    Calls Try.prog 11 #[.agg #[.int .i64 A, .int .u64 l, .int .u64 h]] w fun e w' => e = .returned (.slice none 0 0) ∧ Below w.heap.size w w' := by
  have HRH : Hid _ := HR
  clear HR
  go_enter Try.func11, Try.ntmps11
  go_wp2_with fail
  refine (HRH.out _).mono ?_
  rintro e w1 ⟨rfl, hb1⟩
  have hb1' := below_step (w := w) (by go_grown) hb1
  have hs1 := hb1'.size
  have KF1 : w1.cell? ⟨w.heap.size, 0, none⟩ = some (.int .i64 A) ∧ w1.cell? ⟨w.heap.size, 1, none⟩ = some (.int .u64 l) ∧ w1.cell? ⟨w.heap.size, 2, none⟩ = some (.int .u64 h) ∧ (∀ o, w1.frozen? ⟨w.heap.size, o, none⟩ = false) := ⟨keep_cell hb1 (by first | (simp [go_sem]; done)), keep_cell hb1 (by first | (simp [go_sem]; done)), keep_cell hb1 (by first | (simp [go_sem]; done)), keep_frozen2 hb1 (by first | (simp [go_sem]; done)) (by first | (simp [go_sem]; done))⟩; have KF1z0 : w.heap.size < w1.heap.size := World.block_lt_of_cell? _ _ KF1.1
  clear hb1
  go_wp2_with fail
  go_ret
  exact ⟨rfl, by go_grown⟩

set_option maxHeartbeats 1600000 in
theorem bitsOf_yes {s m n : Nat} (hm : m = max s 1) (h2 : s ≤ 128) (hn : n < 2 ^ 128) (HR : ∀ wx, Calls Try.prog 22 #[.agg #[.int .i64 s, .int .u64 (LO (n)), .int .u64 (HI (n))]] wx fun e w' => e = .returned (.bool true) ∧ Below wx.heap.size wx w') (w : World) :
    Calls Try.prog 11 #[.agg #[.int .i64 s, .int .u64 (LO (n)), .int .u64 (HI (n))]] w fun e w' => ∃ g, e = .returned (.slice (some ⟨g, 0, none⟩) m m) ∧ Bs w' w.heap.size (.slice (some ⟨g, 0, none⟩) m m) (bl m n) ∧ Below w.heap.size w w' := by
  have hbm : bos s = m := by
    unfold bos
    rcases Nat.eq_zero_or_pos s with h0 | h0
    · subst h0; subst hm; rfl
    · rw [if_neg (by omega), if_pos (by omega), show m = s by omega]
  have hm8 : m ≤ 128 := by omega
  have hm1 : 1 ≤ m := by omega
  have HBO : Hid (∀ wx, Calls Try.prog 21 #[.int .i64 (s : Int)] wx fun e w' => e = .returned (.int .i64 (m : Int)) ∧ Below wx.heap.size wx w') := fun wx => by rw [← hbm]; exact bos_any _ wx
  have HRH : Hid _ := HR
  have hmk := make_bools m hm8
  clear HR hm hbm
  go_enter Try.func11, Try.ntmps11
  go_wp2_with fail
  refine (HRH.out _).mono ?_
  rintro e w1 ⟨rfl, hb1⟩
  have hb1' := below_step (w := w) (by go_grown) hb1
  have hs1 := hb1'.size
  have KF1 : w1.cell? ⟨w.heap.size, 0, none⟩ = some (.int .i64 s) ∧ w1.cell? ⟨w.heap.size, 1, none⟩ = some (.int .u64 (LO (n))) ∧ w1.cell? ⟨w.heap.size, 2, none⟩ = some (.int .u64 (HI (n))) ∧ (∀ o, w1.frozen? ⟨w.heap.size, o, none⟩ = false) := ⟨keep_cell hb1 (by first | (simp [go_sem]; done)), keep_cell hb1 (by first | (simp [go_sem]; done)), keep_cell hb1 (by first | (simp [go_sem]; done)), keep_frozen2 hb1 (by first | (simp [go_sem]; done)) (by first | (simp [go_sem]; done))⟩; have KF1z0 : w.heap.size < w1.heap.size := World.block_lt_of_cell? _ _ KF1.1
  clear hb1
  go_wp2_with fail
  refine (HBO.out _).mono ?_
  rintro e w2 ⟨rfl, hb2⟩
  have hb2' := below_step (w := w) (by go_grown) hb2
  have hs2 := hb2'.size
  have KF2 : w2.cell? ⟨w.heap.size, 0, none⟩ = some (.int .i64 s) ∧ w2.cell? ⟨w.heap.size, 1, none⟩ = some (.int .u64 (LO (n))) ∧ w2.cell? ⟨w.heap.size, 2, none⟩ = some (.int .u64 (HI (n))) ∧ (∀ o, w2.frozen? ⟨w.heap.size, o, none⟩ = false) ∧ w2.cell? ⟨w1.heap.size, 0, none⟩ = some (.int .u64 (LO n)) ∧ w2.cell? ⟨w1.heap.size, 1, none⟩ = some (.int .u64 (HI n)) ∧ (∀ o, w2.frozen? ⟨w1.heap.size, o, none⟩ = false) := ⟨keep_cell hb2 (by first | (simp [go_sem]; done) | (simp [go_sem, KF1]; done) | (simp [go_sem, KF1, World.cell?_alloc_some]; done) | (simp [go_sem, KF1, frozen?_alloc_cells]; done)), keep_cell hb2 (by first | (simp [go_sem]; done) | (simp [go_sem, KF1]; done) | (simp [go_sem, KF1, World.cell?_alloc_some]; done) | (simp [go_sem, KF1, frozen?_alloc_cells]; done)), keep_cell hb2 (by first | (simp [go_sem]; done) | (simp [go_sem, KF1]; done) | (simp [go_sem, KF1, World.cell?_alloc_some]; done) | (simp [go_sem, KF1, frozen?_alloc_cells]; done)), keep_frozen2 hb2 (by first | (simp [go_sem]; done) | (simp [go_sem, KF1]; done) | (simp [go_sem, KF1, World.cell?_alloc_some]; done) | (simp [go_sem, KF1, frozen?_alloc_cells]; done)) (by first | (simp [go_sem]; done) | (simp [go_sem, KF1]; done) | (simp [go_sem, KF1, World.cell?_alloc_some]; done) | (simp [go_sem, KF1, frozen?_alloc_cells]; done)), keep_cell hb2 (by first | (simp [go_sem]; done) | (simp [go_sem, KF1]; done) | (simp [go_sem, KF1, World.cell?_alloc_some]; done) | (simp [go_sem, KF1, frozen?_alloc_cells]; done)), keep_cell hb2 (by first | (simp [go_sem]; done) | (simp [go_sem, KF1]; done) | (simp [go_sem, KF1, World.cell?_alloc_some]; done) | (simp [go_sem, KF1, frozen?_alloc_cells]; done)), keep_frozen2 hb2 (by first | (simp [go_sem]; done) | (simp [go_sem, KF1]; done) | (simp [go_sem, KF1, World.cell?_alloc_some]; done) | (simp [go_sem, KF1, frozen?_alloc_cells]; done)) (by first | (simp [go_sem]; done) | (simp [go_sem, KF1]; done) | (simp [go_sem, KF1, World.cell?_alloc_some]; done) | (simp [go_sem, KF1, frozen?_alloc_cells]; done))⟩; have KF2z0 : w.heap.size < w2.heap.size := World.block_lt_of_cell? _ _ KF2.1; have KF2z1 : w1.heap.size < w2.heap.size := World.block_lt_of_cell? _ _ KF2.2.2.2.2.1
  clear hb2 KF1
  go_wp2_with fail
  go_loopw [20] (fun i wr => ∃ k : Nat, k ≤ m ∧ i = .int .i64 k ∧ (wr.cell? ⟨w1.heap.size, 0, none⟩ = some (.int .u64 (LO n)) ∧ wr.cell? ⟨w1.heap.size, 1, none⟩ = some (.int .u64 (HI n))) ∧ Bs wr w2.heap.size (.slice (some ⟨w2.heap.size, 0, none⟩) m m) ((List.range m).map fun j => decide (j < k) && n.testBit j) ∧ Below w.heap.size w wr) (fun i _ => m - (intOf i).toNat)
  case atStart =>
    obtain ⟨-, -, -, -, e0, e1, -⟩ := KF2
    refine ⟨0, Nat.zero_le _, rfl, ⟨?_, ?_⟩, ?_, ?_⟩
    · rw [World.cell?_alloc_past _ _ _ KF2z1]; exact e0
    · rw [World.cell?_alloc_past _ _ _ KF2z1]; exact e1
    · have h := Bs.made (w := w2) (base := w2.heap.size) m (Nat.le_refl _) (by omega)
      have e : (List.range m).map (fun j => decide (j < 0) && n.testBit j) = List.replicate m false := by
        apply List.ext_getElem?; intro j
        by_cases hj : j < m <;> simp [hj]
      rw [e]; exact h
    · go_grown
  case round => 
    obtain ⟨k, hk, rfl, ⟨hc0, hc1⟩, hB, hbl⟩ := hrel
    have HB : Hid _ := hB
    by_cases hlt : k < m
    · have hck : wr.cell? ⟨w2.heap.size, k, none⟩ = some (.bool false) := by
        have := Bs.cell hB (by simp) (j := k) (b := false) (by simp [hlt])
        exact this
      have hfr := Bs.frozen hB (by simp) k
      clear hB
      by_cases h64 : (k : Int) < 64
      · have HV : Hid _ := bit_lo (n := n) (k := k) (by omega)
        have hq : (k : Int).tdiv 64 = 0 := by rw [Int.tdiv_eq_ediv_of_nonneg (by omega)]; omega
        have hp : (k : Int).tmod 64 = k := by rw [Int.tmod_eq_emod_of_nonneg (by omega)]; omega
        have hq' : (k : Int) / 64 = 0 := by omega
        have hp' : (k : Int) % 64 = k := by omega
        go_wp2_with fail
        refine ⟨⟨k + 1, by omega, by go_num, ⟨?_, ?_⟩, ?_, ?_⟩, by simp [intOf]; omega⟩
        · exact (World.cell?_setCell_other _ _ _ _ (by simp)).trans hc0
        · exact (World.cell?_setCell_other _ _ _ _ (by simp)).trans hc1
        · rw [← part_set HV.out]; exact Bs.store HB.out (by simp) k _
        · exact hbl.setCell (by simp; omega) _
      · have HV : Hid _ := bit_hi (k := k) hn (by omega)
        have hq : (k : Int).tdiv 64 = 1 := by rw [Int.tdiv_eq_ediv_of_nonneg (by omega)]; omega
        have hp : (k : Int).tmod 64 = ((k - 64 : Nat) : Int) := by rw [Int.tmod_eq_emod_of_nonneg (by omega)]; omega
        have hq' : (k : Int) / 64 = 1 := by omega
        have hp' : (k : Int) % 64 = ((k - 64 : Nat) : Int) := by omega
        go_wp2_with fail
        refine ⟨⟨k + 1, by omega, by go_num, ⟨?_, ?_⟩, ?_, ?_⟩, by simp [intOf]; omega⟩
        · exact (World.cell?_setCell_other _ _ _ _ (by simp)).trans hc0
        · exact (World.cell?_setCell_other _ _ _ _ (by simp)).trans hc1
        · rw [← part_set HV.out]; exact Bs.store HB.out (by simp) k _
        · exact hbl.setCell (by simp; omega) _
    · obtain rfl : k = m := by omega
      clear hB
      go_wp2_with fail
      go_ret
      refine ⟨_, rfl, ?_, hbl⟩
      have h := Bs.mono HB.out (b' := w.heap.size) (by omega)
      have e : (List.range k).map (fun j => decide (j < k) && n.testBit j) = bl k n := by
        apply List.ext_getElem?; intro j
        by_cases hj : j < k <;> simp [bl, hj]
      rw [e] at h; exact h
/-- A slice at that address holds the list. -/
def Br (w : World) (a : Option Addr) (l : List Bool) : Prop := l = [] ∨ ∃ g o, a = some ⟨g, o, none⟩ ∧ g < w.heap.size ∧ ∀ j, j < l.length → w.cell? ⟨g, o + j, none⟩ = some (.bool (l.getD j false))
theorem Br.below {w w' : World} {a : Option Addr} {l : List Bool} (h : Br w a l) (hb : Below w.heap.size w w') : Br w' a l := by
  rcases h with h | ⟨g, o, h1, h2, h3⟩
  · exact Or.inl h
  · exact Or.inr ⟨g, o, h1, Nat.lt_of_lt_of_le h2 hb.size, fun j hj => (hb.cell (p := ⟨g, o + j, none⟩) h2).trans (h3 j hj)⟩
theorem Bs.br {w : World} {base g c W : Nat} {l : List Bool} (h : Bs w base (.slice (some ⟨g, 0, none⟩) W c) l) (hW : W = l.length) : Br w (some ⟨g, 0, none⟩) l :=
  Or.inr ⟨g, 0, rfl, (Bs.lt h).2, fun j hj => by rw [Nat.zero_add]; exact Bs.cell h hW (by simp [hj])⟩

set_option maxHeartbeats 1600000 in
theorem bools_same {w : World} {a b : Option Addr} {n c d : Nat} {l : List Bool} (ha : Br w a l) (hb : Br w b l) (hn : n = l.length) (hm : n ≤ 1000) :
    Calls Try.prog 8 #[.slice a n c, .slice b n d] w fun e w' => e = .returned (.bool true) ∧ Below w.heap.size w w' := by
  have HA : Hid (Br w a l) := ha
  have HB : Hid (Br w b l) := hb
  have HN : Hid (n = l.length) := hn
  clear ha hb hn
  go_enter Try.func8, Try.ntmps8
  go_wp2_with fail
  go_loopw [5] (fun i wr => ∃ k : Nat, k ≤ n ∧ i = .int .i64 k ∧ Below w.heap.size w wr) (fun i _ => n - (intOf i).toNat)
  case atStart => exact ⟨0, Nat.zero_le _, rfl, by go_grown⟩
  case round =>
    obtain ⟨k, hk, rfl, hbl⟩ := hrel
    by_cases hlt : k < n
    · have hkl : k < l.length := by rw [← HN.out]; exact hlt
      have HA2 := HA.out.below hbl
      have HB2 := HB.out.below hbl
      rcases HA2 with h | ⟨g, o, rfl, hg, hc⟩
      · subst h; simp at hkl
      rcases HB2 with h | ⟨g', o', rfl, hg', hc'⟩
      · subst h; simp at hkl
      have h1 := hc k hkl
      have h2 := hc' k hkl
      obtain ⟨x, hx⟩ : ∃ x, l.getD k false = x := ⟨_, rfl⟩
      rw [hx] at h1 h2
      clear hc hc' HA HB hx HN hkl
      go_wp2_with fail
      go_region
      all_goals
        go_wp2_with fail
        exact ⟨⟨k + 1, by omega, by go_num, by go_grown⟩, by simp [intOf]; omega⟩
    · obtain rfl : k = n := by omega
      go_wp2_with fail
      go_ret
      exact ⟨rfl, hbl⟩
end Go.Proofs.Ytedldoobmmhloaa
