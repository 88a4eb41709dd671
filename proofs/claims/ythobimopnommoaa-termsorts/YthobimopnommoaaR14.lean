/- Every operator asks for its operands' sorts and tells its own as the document says: the walk. -/
import Derived.Test.YthobimopnommoaaX13
import Derived.Test.YthobimopnommoaaY14
namespace Go.Proofs.Ythobimopnommoaa
open Go.RowKit
set_option linter.unusedSimpArgs false
set_option linter.unusedVariables false

set_option maxHeartbeats 12800000 in
theorem walk_sorts_of {a : Option Addr} {n c : Nat} {F : Int → Int → Int → Int × Int} (op p q : Int) (w : World) (hn : n ≤ 10)
    (HS : Hid (∀ wx k, Below w.heap.size w wx → Calls Try.prog 24 #[.int .i64 k, .int .i64 p, .int .i64 q, .slice a n c] wx fun e w' => e = .returned (.tuple #[.int .i64 (F k p q).1, .int .i64 (F k p q).2]) ∧ Below wx.heap.size wx w'))
    (HR : Hid (∀ wx k, Below w.heap.size w wx → Calls Try.prog 25 #[.int .i64 k, .int .i64 p, .int .i64 q, .slice a n c] wx fun e w' => e = .returned (.tuple #[.int .i64 (F k p q).1, .int .i64 (F k p q).2]) ∧ Below wx.heap.size wx w')) :
    Calls Try.prog 4 #[.int .i64 op, .int .i64 p, .int .i64 q, .slice a n c] w fun e w' => e = .returned (.bool true) ∧ Below w.heap.size w w' := by
  have HA : Hid (∀ k wx, Calls Try.prog 26 #[.int .i64 k] wx fun e w' => e = .returned (.int .i64 (ari k)) ∧ w' = wx) := fun k wx => arity_any k wx
  have HB : Hid (∀ k wx, Calls Try.prog 27 #[.int .i64 k] wx fun e w' => e = .returned (.int .i64 (ari k)) ∧ w' = wx) := fun k wx => refarity_any k wx
  have hn' : ¬ (10 : Int) < (n : Int) := by omega
  have heq : ∀ x : Int, (x == x) = true := fun x => by simp
  have hne : ∀ x : Int, (x != x) = false := fun x => by simp
  go_enter Try.func4, Try.ntmps4
  go_wp2_with fail
  refine (known_any _).mono ?_
  rintro e w1 ⟨rfl, hb1⟩
  go_wp2_with fail
  go_loopw [9] (fun i wr => ∃ k : Nat, k ≤ 47 ∧ i = .int .i64 ((k : Int) - 1) ∧ Below w.heap.size w wr) (fun i wr => (46 - intOf i).toNat)
  case atStart => exact ⟨0, by omega, rfl, hb1⟩
  case round =>
    obtain ⟨k, hk, rfl, hbl⟩ := hrel
    by_cases hlt : (k : Int) - 1 ≤ 45
    · obtain ⟨E, hE⟩ : ∃ E, E = F ((k : Int) - 1) p q := ⟨_, rfl⟩
      obtain ⟨A, hA⟩ : ∃ A, A = ari ((k : Int) - 1) := ⟨_, rfl⟩
      have H1 : Hid (∀ wx, Below w.heap.size w wx → Calls Try.prog 24 #[.int .i64 ((k : Int) - 1), .int .i64 p, .int .i64 q, .slice a n c] wx fun e w' => e = .returned (.tuple #[.int .i64 E.1, .int .i64 E.2]) ∧ Below wx.heap.size wx w') := fun wx hb => by rw [hE]; exact HS.out wx _ hb
      have H2 : Hid (∀ wx, Below w.heap.size w wx → Calls Try.prog 25 #[.int .i64 ((k : Int) - 1), .int .i64 p, .int .i64 q, .slice a n c] wx fun e w' => e = .returned (.tuple #[.int .i64 E.1, .int .i64 E.2]) ∧ Below wx.heap.size wx w') := fun wx hb => by rw [hE]; exact HR.out wx _ hb
      have H3 : Hid (∀ wx, Calls Try.prog 26 #[.int .i64 ((k : Int) - 1)] wx fun e w' => e = .returned (.int .i64 A) ∧ w' = wx) := fun wx => by rw [hA]; exact HA.out _ wx
      have H4 : Hid (∀ wx, Calls Try.prog 27 #[.int .i64 ((k : Int) - 1)] wx fun e w' => e = .returned (.int .i64 A) ∧ w' = wx) := fun wx => by rw [hA]; exact HB.out _ wx
      clear hE hA
      have ek : wrap64 ((k : Int) - 1 + 1) = (k : Int) := by unfold wrap64; omega
      have ek2 : wrap64 (k : Int) = (k : Int) := by unfold wrap64; omega
      obtain ⟨j, hj⟩ : ∃ j : Int, j = (k : Int) - 1 := ⟨_, rfl⟩
      rw [← hj] at H1 H2 H3 H4 hlt ek ⊢
      have HJ : Hid _ := hj
      clear hj
      go_wp2_with fail
      refine (H1.out _ hbl).mono ?_
      rintro e w2 ⟨rfl, hb⟩
      have hb2 : Below w.heap.size w w2 := hbl.trans (hb.mono hbl.size)
      clear hb
      go_wp2_with fail
      refine (H2.out _ hb2).mono ?_
      rintro e w3 ⟨rfl, hb⟩
      have hb3 : Below w.heap.size w w3 := hb2.trans (hb.mono hb2.size)
      clear hb
      go_wp2_with fail
      refine (H3.out _).mono ?_
      rintro e wz ⟨rfl, hq⟩
      rw [hq]
      clear hq wz
      go_wp2_with fail
      refine (H4.out _).mono ?_
      rintro e wz ⟨rfl, hq⟩
      rw [hq]
      clear hq wz
      go_wp2_with fail
      have hjk := HJ.out
      refine ⟨⟨k + 1, by omega, ?_, hb3⟩, by simp [intOf]; omega⟩
      simp only [Value.int.injEq, true_and]
      push_cast
      omega
    · obtain ⟨E, hE⟩ : ∃ E, E = F op p q := ⟨_, rfl⟩
      obtain ⟨A, hA⟩ : ∃ A, A = ari op := ⟨_, rfl⟩
      have H1 : Hid (∀ wx, Below w.heap.size w wx → Calls Try.prog 24 #[.int .i64 op, .int .i64 p, .int .i64 q, .slice a n c] wx fun e w' => e = .returned (.tuple #[.int .i64 E.1, .int .i64 E.2]) ∧ Below wx.heap.size wx w') := fun wx hb => by rw [hE]; exact HS.out wx _ hb
      have H2 : Hid (∀ wx, Below w.heap.size w wx → Calls Try.prog 25 #[.int .i64 op, .int .i64 p, .int .i64 q, .slice a n c] wx fun e w' => e = .returned (.tuple #[.int .i64 E.1, .int .i64 E.2]) ∧ Below wx.heap.size wx w') := fun wx hb => by rw [hE]; exact HR.out wx _ hb
      have H3 : Hid (∀ wx, Calls Try.prog 26 #[.int .i64 op] wx fun e w' => e = .returned (.int .i64 A) ∧ w' = wx) := fun wx => by rw [hA]; exact HA.out _ wx
      have H4 : Hid (∀ wx, Calls Try.prog 27 #[.int .i64 op] wx fun e w' => e = .returned (.int .i64 A) ∧ w' = wx) := fun wx => by rw [hA]; exact HB.out _ wx
      clear hE hA
      obtain ⟨j, hj⟩ : ∃ j : Int, j = (k : Int) - 1 := ⟨_, rfl⟩
      rw [← hj] at hlt ⊢
      clear hj
      go_wp2_with fail
      refine (H1.out _ hbl).mono ?_
      rintro e w2 ⟨rfl, hb⟩
      have hb2 : Below w.heap.size w w2 := hbl.trans (hb.mono hbl.size)
      clear hb
      go_wp2_with fail
      refine (H2.out _ hb2).mono ?_
      rintro e w3 ⟨rfl, hb⟩
      have hb3 : Below w.heap.size w w3 := hb2.trans (hb.mono hb2.size)
      clear hb
      go_wp2_with fail
      refine (H3.out _).mono ?_
      rintro e wz ⟨rfl, hq⟩
      rw [hq]
      clear hq wz
      go_wp2_with fail
      refine (H4.out _).mono ?_
      rintro e wz ⟨rfl, hq⟩
      rw [hq]
      clear hq wz
      go_wp2_with fail
      go_ret
      exact ⟨rfl, hb3⟩
set_option maxHeartbeats 1600000 in
theorem walk_sorts_many {a : Option Addr} {n c : Nat} (op p q : Int) (w : World) (hn : 10 < n) (hn2 : n ≤ maxLen) :
    Calls Try.prog 4 #[.int .i64 op, .int .i64 p, .int .i64 q, .slice a n c] w fun e w' => e = .returned (.bool true) ∧ Below w.heap.size w w' := by
  have hn' : (10 : Int) < (n : Int) := by omega
  go_enter Try.func4, Try.ntmps4
  go_wp2_with fail
  refine (known_any _).mono ?_
  rintro e w1 ⟨rfl, hb1⟩
  go_wp2_with fail
  go_ret
  exact ⟨rfl, hb1⟩
theorem sort_empty {op p q : Int} {a : Option Addr} {c : Nat} (w : World) :
    Calls Try.prog 24 #[.int .i64 op, .int .i64 p, .int .i64 q, .slice a 0 c] w fun e w' => e = .returned (.tuple #[.int .i64 (srtF op p q []).1, .int .i64 (srtF op p q []).2]) ∧ Below w.heap.size w w' := by
  by_cases h0 : ari op < 1
  · rw [show srtF op p q [] = (0, 32) by unfold srtF; rw [if_pos h0]]
    exact sort_noop (by omega) h0 w
  · have h1 : ¬ ((0 : Nat) : Int) = ari op := by omega
    rw [show srtF op p q [] = (0, 30) by unfold srtF; rw [if_neg h0, if_neg (fun x => h1 x.1)]]
    exact sort_count (by omega) (by omega) h1 w
theorem refsort_empty {op p q : Int} {a : Option Addr} {c : Nat} (w : World) :
    Calls Try.prog 25 #[.int .i64 op, .int .i64 p, .int .i64 q, .slice a 0 c] w fun e w' => e = .returned (.tuple #[.int .i64 (srtF op p q []).1, .int .i64 (srtF op p q []).2]) ∧ Below w.heap.size w w' := by
  by_cases h0 : ari op < 1
  · rw [show srtF op p q [] = (0, 32) by unfold srtF; rw [if_pos h0]]
    exact rs_noop (by omega) h0 w
  · have h1 : ¬ ((0 : Nat) : Int) = ari op := by omega
    rw [show srtF op p q [] = (0, 30) by unfold srtF; rw [if_neg h0, if_neg (fun x => h1 x.1)]]
    exact rs_count (by omega) (by omega) h1 w
theorem walk_sorts_empty {a : Option Addr} {c : Nat} (op p q : Int) (w : World) :
    Calls Try.prog 4 #[.int .i64 op, .int .i64 p, .int .i64 q, .slice a 0 c] w fun e w' => e = .returned (.bool true) ∧ Below w.heap.size w w' :=
  walk_sorts_of (F := fun k p q => srtF k p q []) op p q w (by omega) (fun wx k _ => sort_empty wx) (fun wx k _ => refsort_empty wx)
theorem Li.below {w wx : World} {g o : Nat} {l : List Int} (h : Li w g o l) (hb : Below w.heap.size w wx) : Li wx g o l := fun j hj => by
  rw [hb.cell (p := ⟨g, o + j, none⟩) (World.block_lt_of_cell? _ _ (h j hj))]; exact h j hj
theorem walk_sorts {g o c : Nat} {l : List Int} (op p q : Int) (w : World) (h : Li w g o l) (hc : l.length ≤ c) (hm : l.length ≤ maxLen) :
    Calls Try.prog 4 #[.int .i64 op, .int .i64 p, .int .i64 q, .slice (some ⟨g, o, none⟩) l.length c] w fun e w' => e = .returned (.bool true) ∧ Below w.heap.size w w' := by
  by_cases hn : l.length ≤ 10
  · exact walk_sorts_of (F := fun k p q => srtF k p q l) op p q w hn (fun wx k hb => sort_any (h.below hb) (by omega) hc) (fun wx k hb => refsort_any (h.below hb) (by omega))
  · exact walk_sorts_many op p q w (by omega) hm
end Go.Proofs.Ythobimopnommoaa
