/- Contracts (dd): a small count as text. -/
import Derived.Test.YtkmkmgnfolpphaaDoorDE19
import Derived.Test.YtkmkmgnfolpphaaDoorSXB
namespace Go.Proofs.YtkmkmgnfolpphaaDoor
open Go.RowKit
set_option linter.unusedSimpArgs false
set_option linter.unusedVariables false

theorem small2 (w : World) : Calls Tryd.prog 79 #[.int .i64 2] w fun e w' => e = .returned (.string ⟨#[50]⟩) ∧ w' = w := by
  go_enter Tryd.func79, Tryd.ntmps79
  go_wp2_with fail
  go_ret
  exact ⟨by kernel_rfl, rfl⟩
theorem format2 (w : World) : Calls Tryd.prog 64 #[.int .u64 2, .int .i64 10] w fun e w' => e = .returned (.string ⟨#[50]⟩) ∧ w' = w := by
  go_enter Tryd.func64, Tryd.ntmps64
  go_wp2_with fail
  refine Calls.mono (small2 _) ?_
  rintro e w1 ⟨rfl, rfl⟩
  go_wp2_with fail
  go_ret
  exact ⟨rfl, rfl⟩
theorem formatU2 (w : World) : Calls Tryd.prog 53 #[.int .u64 2, .int .i64 10] w fun e w' => e = .returned (.string ⟨#[50]⟩) ∧ w' = w := by
  go_enter Tryd.func53, Tryd.ntmps53
  go_wp2_with fail
  refine Calls.mono (format2 _) ?_
  rintro e w1 ⟨rfl, rfl⟩
  go_wp2_with fail
  go_ret
  exact ⟨rfl, rfl⟩
theorem text2 {w : World} {v : Value} (h : Um w v 2) : Calls Tryd.prog 43 #[v] w fun e w' => e = .returned (.string ⟨#[50]⟩) ∧ Below w.heap.size w w' := by
  obtain ⟨r, o, c, rfl, hr, hc⟩ := h.ex
  have hnew := heap_alloc_new w (.cells #[.pointer none, .slice none 0 0] 106)
  have hc1 : (w.alloc (.cells #[.pointer none, .slice none 0 0] 106)).cell? ⟨r, o, none⟩ = some (.int .u64 2) := by rw [← hc]; exact World.cell?_of_block (a := ⟨r, o, none⟩) (Lib.alloc_old w _ r hr)
  have HW : Hid (Calls Tryd.prog 52 #[.pointer (some ⟨w.heap.size, 0, none⟩), .string ⟨#[50]⟩] (w.alloc (.cells #[.pointer none, .slice none 0 0] 106)) fun e w' => e = .returned (.tuple #[.int .i64 1, .nilIface]) ∧ Lib.IsBuilderF 106 5 w.heap.size w.heap.size (Lib.byteCells [50]) w' ∧ Below w.heap.size w w') := by
    have hbl : Below w.heap.size w (w.alloc (.cells #[.pointer none, .slice none 0 0] 106)) := (Below.refl _ _).alloc (Nat.le_refl _) _
    refine (writeString_any w.heap.size w.heap.size [] ⟨#[50]⟩ _ (Or.inl ⟨by omega, .slice none 0 0, hnew, ⟨by simp, Or.inl ⟨rfl, rfl⟩⟩, by simp [Value.ownBlock]⟩) (by decide) (by simp)).mono ?_
    rintro e w' ⟨rfl, h1, h2, h3⟩
    exact ⟨rfl, Or.inr h1, hbl.trans h2⟩
  have HF : Hid _ := formatU2 (w.alloc (.cells #[.pointer none, .slice none 0 0] 106))
  clear hnew h
  go_enter Tryd.func43, Tryd.ntmps43
  go_wp2_with fail
  go_loopw [3] (fun i wr => i = .int .i64 0 ∧ w = wr) (fun _ _ => 0)
  case atStart => exact ⟨rfl, rfl⟩
  case round =>
  obtain ⟨rfl, rfl⟩ := hrel
  go_wp2_with fail
  refine Calls.mono HF.out ?_
  rintro e w1 ⟨rfl, rfl⟩
  go_wp2_with fail
  refine Calls.mono HW.out ?_
  rintro e w1 ⟨rfl, hW, hb⟩
  have HB : Hid _ := hb
  have HS : Hid _ := (bld_string w.heap.size _ [50] w1 hW hb.size).mono (fun e w' hh => (⟨hh.1, hh.2.2.1⟩ : e = .returned (.string ⟨#[50]⟩) ∧ Below w.heap.size w1 w'))
  clear hW hb HW HF
  go_wp2_with fail
  go_loopw [5] (fun i wr => i = .int .i64 (-1) ∧ w1 = wr) (fun _ _ => 0)
  case atStart => exact ⟨rfl, rfl⟩
  case round =>
  obtain ⟨rfl, rfl⟩ := hrel
  go_wp2_with fail
  refine Calls.mono HS.out ?_
  rintro e w2 ⟨rfl, hb2⟩
  go_wp2_with fail
  go_ret
  exact ⟨rfl, HB.out.trans hb2⟩
/-- Count of what has two assignments. -/
theorem count_two {w : World} {F0 : Nat → Prop} {g vars most : Nat} {S : St} {pn : Int → Int} (h0 : Gr w F0 g vars most S pn) (hv : vars ≤ 58) (f : Int) (ha : alive S.ns f) (h2 : cv vars S.ns f = 2) :
    Calls Tryd.prog 11 #[.pointer (some ⟨g, 0, none⟩), .int .i64 f] w fun e w' => e = .returned (.tuple #[.string ⟨#[50]⟩, .int .i64 0]) ∧ Below w.heap.size w w' := by
  have HH2 : Hid (Calls Tryd.prog 38 #[.pointer (some ⟨g, 1, none⟩), .int .i64 f] w fun e w' => e = .returned (.bool true) ∧ w' = w) := by
    have := has_any h0.cut f
    rwa [decide_eq_true ha] at this
  have HC : Hid (Calls Tryd.prog 42 #[.pointer (some ⟨g, 0, none⟩), .int .i64 f] w fun e w' => ∃ u, e = .returned u ∧ Um w' u 2 ∧ Below w.heap.size w w') := by
    have := count1 h0 hv f ha
    rw [h2] at this
    exact this
  clear h0 ha h2
  go_enter Tryd.func11, Tryd.ntmps11
  go_wp2_with fail
  refine HH2.out.mono ?_
  rintro e w0 ⟨rfl, hw0⟩
  rw [hw0]
  clear hw0 w0
  go_wp2_with fail
  refine HC.out.mono ?_
  rintro e w1 ⟨u, rfl, hu, hb⟩
  have HB : Hid _ := hb
  have HT : Hid _ := text2 hu
  obtain ⟨r, o, c, rfl, -, -⟩ := hu.ex
  clear hu hb HC HH2
  go_wp2_with fail
  refine Calls.mono HT.out ?_
  rintro e w2 ⟨rfl, hb2⟩
  go_wp2_with fail
  refine bodyPost_ret (v := .tuple #[.string ⟨#[50]⟩, .int .i64 0]) (by simp [results, Tryd.results11, go_sem]) rfl ?_
  exact ⟨rfl, HB.out.trans (hb2.mono HB.out.size)⟩
/-- Count of what isn't there. -/
theorem count_no {w : World} {F0 : Nat → Prop} {g vars most : Nat} {S : St} {pn : Int → Int} (h0 : Gr w F0 g vars most S pn) (f : Int) (ha : ¬ alive S.ns f) :
    Calls Tryd.prog 11 #[.pointer (some ⟨g, 0, none⟩), .int .i64 f] w fun e w' => e = .returned (.tuple #[.string ⟨#[]⟩, .int .i64 140]) ∧ w' = w := by
  have HH2 : Hid (Calls Tryd.prog 38 #[.pointer (some ⟨g, 1, none⟩), .int .i64 f] w fun e w' => e = .returned (.bool false) ∧ w' = w) := by
    have := has_any h0.cut f
    rwa [decide_eq_false ha] at this
  clear h0 ha
  go_enter Tryd.func11, Tryd.ntmps11
  go_wp2_with fail
  refine HH2.out.mono ?_
  rintro e w0 ⟨rfl, hw0⟩
  rw [hw0]
  clear hw0 w0
  go_wp2_with fail
  refine bodyPost_ret (v := .tuple #[.string ⟨#[]⟩, .int .i64 140]) (by simp [results, Tryd.results11, go_sem]) rfl ?_
  exact ⟨rfl, rfl⟩
end Go.Proofs.YtkmkmgnfolpphaaDoor
