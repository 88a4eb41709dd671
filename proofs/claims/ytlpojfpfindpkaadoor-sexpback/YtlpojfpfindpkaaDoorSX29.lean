/- The walk of SexpPrint. -/
import Derived.Test.YtlpojfpfindpkaaDoorSX28
import Derived.Test.YtlpojfpfindpkaaDoorSX19
import Derived.Deep.RegionHeld3
namespace Go.Proofs.YtlpojfpfindpkaaDoor
open Go.RowKit
set_option linter.unusedSimpArgs false
set_option linter.unusedVariables false

theorem below_step {w W w1 : World} (h : Below w.heap.size w W) (hb : Below W.heap.size W w1) : Below w.heap.size w w1 := h.trans (hb.mono h.size)
theorem keep_cell {W w1 : World} (hb : Below W.heap.size W w1) {a : Addr} {v : Value} (h : W.cell? a = some v) : w1.cell? a = some v := by
  rw [hb.cell (World.block_lt_of_cell? _ _ h)]; exact h
theorem keep_low {w w' : World} {B g i : Nat} {v : Value} (hb : Below B w w') (hg : g < B) (h : w.cell? ⟨g, i, none⟩ = some v) : w'.cell? ⟨g, i, none⟩ = some v := by
  rw [hb.cell (p := ⟨g, i, none⟩) hg]; exact h
set_option maxRecDepth 20000 in
set_option maxHeartbeats 6400000 in
theorem walk_print {x : Sx} {u : Value} (t : ByteArray) {w : World} (hR : Row w (fun b => b < w.heap.size) x.ks u) (hwk : x.wk) (hg : Gl w) :
    Calls Tryd.prog 4 #[.agg #[.string x.w, .bool x.l, u], .string t] w fun e w' => e = .returned (.bool true) ∧ Below w.heap.size w w' := by
  obtain ⟨a, n, c, rfl⟩ := hR.sl
  obtain ⟨ob, hob⟩ : ∃ ob, ob = Obj.cells #[.string x.w, .bool x.l, .slice a n c] 35 := ⟨_, rfl⟩
  have hb0 : Below w.heap.size w (w.alloc ob) := (Below.refl _ _).alloc (Nat.le_refl _) _
  have HKN : Hid (Calls Tryd.prog 9 #[] (w.alloc (.cells #[.string x.w, .bool x.l, .slice a n c] 35)) fun e w' => e = .returned (.bool true) ∧ Hid (Below w.heap.size w w') ∧ Hid (w'.cell? ⟨w.heap.size, 0, none⟩ = some (.string x.w) ∧ w'.cell? ⟨w.heap.size, 1, none⟩ = some (.bool x.l) ∧ w'.cell? ⟨w.heap.size, 2, none⟩ = some (.slice a n c))) := by
    rw [← hob]
    have hg' : Gl (w.alloc ob) := hg.below hb0
    refine (known_any hg').mono ?_
    rintro e w' ⟨rfl, hb⟩
    refine ⟨rfl, hb0.trans (hb.mono (by simp)), ?_, ?_, ?_⟩
    all_goals exact keep_low hb (by simp) (by rw [hob]; simp)
  have HLI : Hid (∀ wx, Below w.heap.size w wx → Calls Tryd.prog 14 #[.agg #[.string x.w, .bool x.l, .slice a n c], .int .i64 2000, .int .i64 300] wx fun e w' => ∃ r : Int, e = .returned (.int .i64 r) ∧ 0 ≤ r ∧ r ≤ 2000 + 1152921504606846976 ∧ Hid (r ≤ 2000 → r = (x.lt : Nat)) ∧ Below wx.heap.size wx w') := fun wx hb => Light_any x (row_low hR (fun _ h => h) hb) (fun g (h : g < w.heap.size) => Nat.lt_of_lt_of_le h hb.size) hwk (by decide) (by decide) (by decide) (by decide)
  obtain ⟨P, hP⟩ : ∃ P, P = tx x.prt := ⟨_, rfl⟩
  obtain ⟨Z, hZ⟩ : ∃ Z : Int, Z = (x.siz : Nat) := ⟨_, rfl⟩
  obtain ⟨R, hRe⟩ : ∃ R, R = isW t.data.toList := ⟨_, rfl⟩
  have HP1 : Hid (x.lt ≤ 2000 → ∀ wx, Below w.heap.size w wx → Calls Tryd.prog 15 #[.agg #[.string x.w, .bool x.l, .slice a n c]] wx fun e w' => e = .returned (.string P) ∧ Below wx.heap.size wx w') := fun hl wx hb => by
    have h1 := prt_lt x
    rw [hP]
    exact Print_any (row_low hR (fun _ h => h) hb) (fun g (h : g < w.heap.size) => Nat.lt_of_lt_of_le h hb.size) (by omega)
  have HP2 : Hid (x.lt ≤ 2000 → ∀ wx, Below w.heap.size w wx → Calls Tryd.prog 16 #[.agg #[.string x.w, .bool x.l, .slice a n c]] wx fun e w' => e = .returned (.string P) ∧ Below wx.heap.size wx w') := fun hl wx hb => by
    have h1 := prt_lt x
    rw [hP]
    exact rPrint_any x (row_low hR (fun _ h => h) hb) (fun g (h : g < w.heap.size) => Nat.lt_of_lt_of_le h hb.size) (by omega)
  have HS1 : Hid (x.lt ≤ 2000 → ∀ wx, Below w.heap.size w wx → Calls Tryd.prog 17 #[.agg #[.string x.w, .bool x.l, .slice a n c]] wx fun e w' => e = .returned (.int .i64 Z) ∧ Below wx.heap.size wx w') := fun hl wx hb => by
    have h1 := siz_lt x
    rw [hZ]
    exact Size_any x (row_low hR (fun _ h => h) hb) (fun g (h : g < w.heap.size) => Nat.lt_of_lt_of_le h hb.size) (by omega)
  have HS2 : Hid (x.lt ≤ 2000 → ∀ wx, Below w.heap.size w wx → Calls Tryd.prog 18 #[.agg #[.string x.w, .bool x.l, .slice a n c]] wx fun e w' => e = .returned (.int .i64 Z) ∧ Below wx.heap.size wx w') := fun hl wx hb => by
    have h1 := siz_lt x
    rw [hZ]
    exact rSize_any x (row_low hR (fun _ h => h) hb) (fun g (h : g < w.heap.size) => Nat.lt_of_lt_of_le h hb.size) (by omega)
  have HW1 : Hid (t.size ≤ 2000 → ∀ wx, Calls Tryd.prog 19 #[.string t] wx fun e w' => e = .returned (.bool R) ∧ Below wx.heap.size wx w') := fun hl wx => by
    have h1 := Word_any t wx (by omega)
    rw [hRe]; unfold isW; rw [len_t]; exact h1
  have HW2 : Hid (t.size ≤ 2000 → ∀ wx, Calls Tryd.prog 20 #[.string t] wx fun e w' => e = .returned (.bool R) ∧ Below wx.heap.size wx w') := fun hl wx => by
    rw [hRe]; exact rWord_any t wx (by omega)
  clear hR hwk hg hob hb0 ob hP hZ hRe
  go_enter Tryd.func4, Tryd.ntmps4
  go_wp2_with fail
  refine Calls.mono HKN.out ?_
  rintro e w1 ⟨rfl, hb1, hX⟩
  obtain ⟨q0, q1, q2⟩ := hX.out
  clear HKN
  go_wp2_with fail
  refine Calls.mono (HLI.out _ hb1.out) ?_
  rintro e w2 ⟨r, rfl, hr0, hr1, hr2, hb2⟩
  have hlt1 : w.heap.size < w1.heap.size := World.block_lt_of_cell? _ _ q0
  have q0' := keep_low hb2 hlt1 q0
  have q1' := keep_low hb2 hlt1 q1
  have q2' := keep_low hb2 hlt1 q2
  have HB2 : Hid (Below w.heap.size w w2) := hb1.out.trans (hb2.mono (Nat.le_of_lt hlt1))
  clear q0 q1 q2 hX hb2 hlt1 hb1 HLI
  by_cases hbig : 2000 < r
  · go_wp2_with fail
    go_ret
    exact ⟨rfl, HB2.out⟩
  · by_cases hlong : 2000 < t.size
    · have hlI : (2000 : Int) < (t.size : Int) := by omega
      go_wp2_with fail
      go_ret
      exact ⟨rfl, HB2.out⟩
    · have hlI : (t.size : Int) ≤ 2000 := by omega
      have hrl : x.lt ≤ 2000 := by have := hr2.out (by omega); omega
      have KP1 : Hid _ := HP1.out hrl
      have KP2 : Hid _ := HP2.out hrl
      have KS1 : Hid _ := HS1.out hrl
      have KS2 : Hid _ := HS2.out hrl
      have KW1 : Hid _ := HW1.out (by omega)
      have KW2 : Hid _ := HW2.out (by omega)
      clear HP1 HP2 HS1 HS2 HW1 HW2 hr2 hrl hr0 hr1 hlong
      have e1 : (P.toList == P.toList) = true := by simp
      have e2 : (Z == Z) = true := by simp
      have e3 : (R == R) = true := by simp
      go_wp2_with fail
      go_region_held3 (fun y => y.cell? ⟨w.heap.size, 0, none⟩ = some (.string x.w) ∧ y.cell? ⟨w.heap.size, 1, none⟩ = some (.bool x.l) ∧ y.cell? ⟨w.heap.size, 2, none⟩ = some (.slice a n c) ∧ Below w.heap.size w y)
        ((first | (obtain ⟨p0, p1, p2, p3⟩ := ‹_ ∧ _ ∧ _ ∧ _›; with_reducible exact ⟨keep_cell hb p0, keep_cell hb p1, keep_cell hb p2, below_step p3 hb⟩) | (refine ⟨?_, ?_, ?_, ?_⟩ <;> first | (simp [go_sem, q0', q1', q2']; done) | exact HB2.out.trans (drew_below _ _) | go_grown)))
        ((first | (go_at_call 15; have qq := ‹_ ∧ _ ∧ _ ∧ _›; refine (KP1.out _ qq.2.2.2).mono ?_; rintro e w3 ⟨rfl, hb⟩) | (go_at_call 16; have qq := ‹_ ∧ _ ∧ _ ∧ _›; refine (KP2.out _ qq.2.2.2).mono ?_; rintro e w3 ⟨rfl, hb⟩) | (go_at_call 17; have qq := ‹_ ∧ _ ∧ _ ∧ _›; refine (KS1.out _ qq.2.2.2).mono ?_; rintro e w3 ⟨rfl, hb⟩) | (go_at_call 18; have qq := ‹_ ∧ _ ∧ _ ∧ _›; refine (KS2.out _ qq.2.2.2).mono ?_; rintro e w3 ⟨rfl, hb⟩) | (go_at_call 19; refine (KW1.out _).mono ?_; rintro e w3 ⟨rfl, hb⟩) | (go_at_call 20; refine (KW2.out _).mono ?_; rintro e w3 ⟨rfl, hb⟩)))
      obtain ⟨-, -, -, hBq⟩ := ‹_ ∧ _ ∧ _ ∧ _›
      go_wp2_with fail
      go_ret
      exact ⟨rfl, hBq⟩
end Go.Proofs.YtlpojfpfindpkaaDoor
