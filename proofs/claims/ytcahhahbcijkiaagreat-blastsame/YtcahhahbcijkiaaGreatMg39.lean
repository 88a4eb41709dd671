import Derived.Test.YtcahhahbcijkiaaGreatBLZA
namespace Go.Proofs.YtcahhahbcijkiaaGreat.Ag
set_option maxHeartbeats 12800000
set_option maxRecDepth 100000
open Go.RowKit
set_option linter.unusedSimpArgs false
set_option linter.unusedVariables false
section
variable {w : World} {F : Nat → Prop} {gs g mo : Nat} {s : Gz} {ua ub uc : Value} {op so na nb nc p q W lo hi : Int} {nm : ByteArray} {R : List Int × Gz}
theorem circ_complement (har : ∀ wx, Calls Tryz.prog 60 #[.int .i64 op] wx fun ev w' => ev = .returned (.int .i64 1) ∧ w' = wx) (hof : ∀ wx, Calls Tryz.prog 61 #[.pointer (some ⟨gs, 0, none⟩), .int .i64 op] wx fun ev w' => ev = .returned (.func (.func 81) #[.pointer (some ⟨gs, 0, none⟩)] #[]) ∧ w' = wx)
  (hc : ∀ wx, Below w.heap.size w wx → Calls Tryz.prog 81 #[.pointer (some ⟨gs, 0, none⟩), ua, .int .i64 p, .int .i64 q] wx (WG wx F gs g mo R)) :
  Calls Tryz.prog 49 #[.pointer (some ⟨gs, 0, none⟩), .agg #[.int .i64 op, .int .i64 so, .int .i64 na, .int .i64 nb, .int .i64 nc, .int .i64 p, .int .i64 q, .int .i64 W, .int .u64 lo, .int .u64 hi, .string nm], ua, ub, uc] w (WG w F gs g mo R) := by
 have HAR : Hid _ := har
 have HOF : Hid _ := hof
 have HC : Hid _ := hc
 clear har hof hc
 go_enter Tryz.func49, Tryz.ntmps49
 go_wp2_with fail
 refine (HAR.out _).mono ?_
 rintro ev wz ⟨rfl, hz⟩
 rw [hz]
 clear hz wz
 go_wp2_with fail
 obtain ⟨wb, hwb⟩ : ∃ wb, wb = w.alloc (Obj.cells #[.int .i64 op, .int .i64 so, .int .i64 na, .int .i64 nb, .int .i64 nc, .int .i64 p, .int .i64 q, .int .i64 W, .int .u64 lo, .int .u64 hi, .string nm] 50) := ⟨_, rfl⟩
 rw [← hwb]
 have hnew : wb.heap[w.heap.size]? = some (Obj.cells #[.int .i64 op, .int .i64 so, .int .i64 na, .int .i64 nb, .int .i64 nc, .int .i64 p, .int .i64 q, .int .i64 W, .int .u64 lo, .int .u64 hi, .string nm] 50) := by rw [hwb]; exact heap_alloc_new w _
 have HBW : Hid (Below w.heap.size w wb) := by unfold Hid; rw [hwb]; go_grown
 have d0 : wb.drew.cell? ⟨w.heap.size, 0, none⟩ = some (.int .i64 op) := cell_of (w := wb.drew) hnew 0 rfl
 have d5 : wb.drew.cell? ⟨w.heap.size, 5, none⟩ = some (.int .i64 p) := cell_of (w := wb.drew) hnew 5 rfl
 have d6 : wb.drew.cell? ⟨w.heap.size, 6, none⟩ = some (.int .i64 q) := cell_of (w := wb.drew) hnew 6 rfl
 have HX : Hid (Below w.heap.size w wb.drew) := HBW.out.trans ((drew_b _).mono HBW.out.size)
 clear hwb hnew
 go_region_with (first | (go_at_call 61; refine (HOF.out _).mono ?_; rintro ev wz ⟨rfl, hz⟩; rw [hz]; clear hz wz) | (go_at_call 81; refine (HC.out _ HX.out).mono ?_; rintro ev w5 ⟨u5, rfl, F5, hW5, hG5, hC5⟩))
 all_goals
  have HF : Hid (∃ F', Wd w5 (FG F' gs) u5 R.1 ∧ Gn w5 F' gs g mo R.2 ∧ Ch w w5 (FG F gs) (FG F' gs)) := ⟨F5, hW5, hG5, (Ch.of_below _ HX.out).trans hC5⟩
  clear hW5 hG5 hC5 d0 d5 d6
  go_wp2_with fail
  go_ret
  exact ⟨_, rfl, HF.out⟩
theorem circ_negation (har : ∀ wx, Calls Tryz.prog 60 #[.int .i64 op] wx fun ev w' => ev = .returned (.int .i64 1) ∧ w' = wx) (hof : ∀ wx, Calls Tryz.prog 61 #[.pointer (some ⟨gs, 0, none⟩), .int .i64 op] wx fun ev w' => ev = .returned (.func (.func 74) #[.pointer (some ⟨gs, 0, none⟩)] #[]) ∧ w' = wx)
  (hc : ∀ wx, Below w.heap.size w wx → Calls Tryz.prog 74 #[.pointer (some ⟨gs, 0, none⟩), ua, .int .i64 p, .int .i64 q] wx (WG wx F gs g mo R)) :
  Calls Tryz.prog 49 #[.pointer (some ⟨gs, 0, none⟩), .agg #[.int .i64 op, .int .i64 so, .int .i64 na, .int .i64 nb, .int .i64 nc, .int .i64 p, .int .i64 q, .int .i64 W, .int .u64 lo, .int .u64 hi, .string nm], ua, ub, uc] w (WG w F gs g mo R) := by
 have HAR : Hid _ := har
 have HOF : Hid _ := hof
 have HC : Hid _ := hc
 clear har hof hc
 go_enter Tryz.func49, Tryz.ntmps49
 go_wp2_with fail
 refine (HAR.out _).mono ?_
 rintro ev wz ⟨rfl, hz⟩
 rw [hz]
 clear hz wz
 go_wp2_with fail
 obtain ⟨wb, hwb⟩ : ∃ wb, wb = w.alloc (Obj.cells #[.int .i64 op, .int .i64 so, .int .i64 na, .int .i64 nb, .int .i64 nc, .int .i64 p, .int .i64 q, .int .i64 W, .int .u64 lo, .int .u64 hi, .string nm] 50) := ⟨_, rfl⟩
 rw [← hwb]
 have hnew : wb.heap[w.heap.size]? = some (Obj.cells #[.int .i64 op, .int .i64 so, .int .i64 na, .int .i64 nb, .int .i64 nc, .int .i64 p, .int .i64 q, .int .i64 W, .int .u64 lo, .int .u64 hi, .string nm] 50) := by rw [hwb]; exact heap_alloc_new w _
 have HBW : Hid (Below w.heap.size w wb) := by unfold Hid; rw [hwb]; go_grown
 have d0 : wb.drew.cell? ⟨w.heap.size, 0, none⟩ = some (.int .i64 op) := cell_of (w := wb.drew) hnew 0 rfl
 have d5 : wb.drew.cell? ⟨w.heap.size, 5, none⟩ = some (.int .i64 p) := cell_of (w := wb.drew) hnew 5 rfl
 have d6 : wb.drew.cell? ⟨w.heap.size, 6, none⟩ = some (.int .i64 q) := cell_of (w := wb.drew) hnew 6 rfl
 have HX : Hid (Below w.heap.size w wb.drew) := HBW.out.trans ((drew_b _).mono HBW.out.size)
 clear hwb hnew
 go_region_with (first | (go_at_call 61; refine (HOF.out _).mono ?_; rintro ev wz ⟨rfl, hz⟩; rw [hz]; clear hz wz) | (go_at_call 74; refine (HC.out _ HX.out).mono ?_; rintro ev w5 ⟨u5, rfl, F5, hW5, hG5, hC5⟩))
 all_goals
  have HF : Hid (∃ F', Wd w5 (FG F' gs) u5 R.1 ∧ Gn w5 F' gs g mo R.2 ∧ Ch w w5 (FG F gs) (FG F' gs)) := ⟨F5, hW5, hG5, (Ch.of_below _ HX.out).trans hC5⟩
  clear hW5 hG5 hC5 d0 d5 d6
  go_wp2_with fail
  go_ret
  exact ⟨_, rfl, HF.out⟩
end
open Go.RowKit
section
variable {w : World} {F : Nat → Prop} {gs g mo : Nat} {s : Gz} {ua ub uc : Value} {op so na nb nc p q W lo hi : Int} {nm : ByteArray} {R : List Int × Gz}
theorem circ_extraction (har : ∀ wx, Calls Tryz.prog 60 #[.int .i64 op] wx fun ev w' => ev = .returned (.int .i64 1) ∧ w' = wx) (hof : ∀ wx, Calls Tryz.prog 61 #[.pointer (some ⟨gs, 0, none⟩), .int .i64 op] wx fun ev w' => ev = .returned (.func (.func 75) #[.pointer (some ⟨gs, 0, none⟩)] #[]) ∧ w' = wx)
  (hc : ∀ wx, Below w.heap.size w wx → Calls Tryz.prog 75 #[.pointer (some ⟨gs, 0, none⟩), ua, .int .i64 p, .int .i64 q] wx (WG wx F gs g mo R)) :
  Calls Tryz.prog 49 #[.pointer (some ⟨gs, 0, none⟩), .agg #[.int .i64 op, .int .i64 so, .int .i64 na, .int .i64 nb, .int .i64 nc, .int .i64 p, .int .i64 q, .int .i64 W, .int .u64 lo, .int .u64 hi, .string nm], ua, ub, uc] w (WG w F gs g mo R) := by
 have HAR : Hid _ := har
 have HOF : Hid _ := hof
 have HC : Hid _ := hc
 clear har hof hc
 go_enter Tryz.func49, Tryz.ntmps49
 go_wp2_with fail
 refine (HAR.out _).mono ?_
 rintro ev wz ⟨rfl, hz⟩
 rw [hz]
 clear hz wz
 go_wp2_with fail
 obtain ⟨wb, hwb⟩ : ∃ wb, wb = w.alloc (Obj.cells #[.int .i64 op, .int .i64 so, .int .i64 na, .int .i64 nb, .int .i64 nc, .int .i64 p, .int .i64 q, .int .i64 W, .int .u64 lo, .int .u64 hi, .string nm] 50) := ⟨_, rfl⟩
 rw [← hwb]
 have hnew : wb.heap[w.heap.size]? = some (Obj.cells #[.int .i64 op, .int .i64 so, .int .i64 na, .int .i64 nb, .int .i64 nc, .int .i64 p, .int .i64 q, .int .i64 W, .int .u64 lo, .int .u64 hi, .string nm] 50) := by rw [hwb]; exact heap_alloc_new w _
 have HBW : Hid (Below w.heap.size w wb) := by unfold Hid; rw [hwb]; go_grown
 have d0 : wb.drew.cell? ⟨w.heap.size, 0, none⟩ = some (.int .i64 op) := cell_of (w := wb.drew) hnew 0 rfl
 have d5 : wb.drew.cell? ⟨w.heap.size, 5, none⟩ = some (.int .i64 p) := cell_of (w := wb.drew) hnew 5 rfl
 have d6 : wb.drew.cell? ⟨w.heap.size, 6, none⟩ = some (.int .i64 q) := cell_of (w := wb.drew) hnew 6 rfl
 have HX : Hid (Below w.heap.size w wb.drew) := HBW.out.trans ((drew_b _).mono HBW.out.size)
 clear hwb hnew
 go_region_with (first | (go_at_call 61; refine (HOF.out _).mono ?_; rintro ev wz ⟨rfl, hz⟩; rw [hz]; clear hz wz) | (go_at_call 75; refine (HC.out _ HX.out).mono ?_; rintro ev w5 ⟨u5, rfl, F5, hW5, hG5, hC5⟩))
 all_goals
  have HF : Hid (∃ F', Wd w5 (FG F' gs) u5 R.1 ∧ Gn w5 F' gs g mo R.2 ∧ Ch w w5 (FG F gs) (FG F' gs)) := ⟨F5, hW5, hG5, (Ch.of_below _ HX.out).trans hC5⟩
  clear hW5 hG5 hC5 d0 d5 d6
  go_wp2_with fail
  go_ret
  exact ⟨_, rfl, HF.out⟩
theorem circ_zeroExtension (har : ∀ wx, Calls Tryz.prog 60 #[.int .i64 op] wx fun ev w' => ev = .returned (.int .i64 1) ∧ w' = wx) (hof : ∀ wx, Calls Tryz.prog 61 #[.pointer (some ⟨gs, 0, none⟩), .int .i64 op] wx fun ev w' => ev = .returned (.func (.func 76) #[.pointer (some ⟨gs, 0, none⟩)] #[]) ∧ w' = wx)
  (hc : ∀ wx, Below w.heap.size w wx → Calls Tryz.prog 76 #[.pointer (some ⟨gs, 0, none⟩), ua, .int .i64 p, .int .i64 q] wx (WG wx F gs g mo R)) :
  Calls Tryz.prog 49 #[.pointer (some ⟨gs, 0, none⟩), .agg #[.int .i64 op, .int .i64 so, .int .i64 na, .int .i64 nb, .int .i64 nc, .int .i64 p, .int .i64 q, .int .i64 W, .int .u64 lo, .int .u64 hi, .string nm], ua, ub, uc] w (WG w F gs g mo R) := by
 have HAR : Hid _ := har
 have HOF : Hid _ := hof
 have HC : Hid _ := hc
 clear har hof hc
 go_enter Tryz.func49, Tryz.ntmps49
 go_wp2_with fail
 refine (HAR.out _).mono ?_
 rintro ev wz ⟨rfl, hz⟩
 rw [hz]
 clear hz wz
 go_wp2_with fail
 obtain ⟨wb, hwb⟩ : ∃ wb, wb = w.alloc (Obj.cells #[.int .i64 op, .int .i64 so, .int .i64 na, .int .i64 nb, .int .i64 nc, .int .i64 p, .int .i64 q, .int .i64 W, .int .u64 lo, .int .u64 hi, .string nm] 50) := ⟨_, rfl⟩
 rw [← hwb]
 have hnew : wb.heap[w.heap.size]? = some (Obj.cells #[.int .i64 op, .int .i64 so, .int .i64 na, .int .i64 nb, .int .i64 nc, .int .i64 p, .int .i64 q, .int .i64 W, .int .u64 lo, .int .u64 hi, .string nm] 50) := by rw [hwb]; exact heap_alloc_new w _
 have HBW : Hid (Below w.heap.size w wb) := by unfold Hid; rw [hwb]; go_grown
 have d0 : wb.drew.cell? ⟨w.heap.size, 0, none⟩ = some (.int .i64 op) := cell_of (w := wb.drew) hnew 0 rfl
 have d5 : wb.drew.cell? ⟨w.heap.size, 5, none⟩ = some (.int .i64 p) := cell_of (w := wb.drew) hnew 5 rfl
 have d6 : wb.drew.cell? ⟨w.heap.size, 6, none⟩ = some (.int .i64 q) := cell_of (w := wb.drew) hnew 6 rfl
 have HX : Hid (Below w.heap.size w wb.drew) := HBW.out.trans ((drew_b _).mono HBW.out.size)
 clear hwb hnew
 go_region_with (first | (go_at_call 61; refine (HOF.out _).mono ?_; rintro ev wz ⟨rfl, hz⟩; rw [hz]; clear hz wz) | (go_at_call 76; refine (HC.out _ HX.out).mono ?_; rintro ev w5 ⟨u5, rfl, F5, hW5, hG5, hC5⟩))
 all_goals
  have HF : Hid (∃ F', Wd w5 (FG F' gs) u5 R.1 ∧ Gn w5 F' gs g mo R.2 ∧ Ch w w5 (FG F gs) (FG F' gs)) := ⟨F5, hW5, hG5, (Ch.of_below _ HX.out).trans hC5⟩
  clear hW5 hG5 hC5 d0 d5 d6
  go_wp2_with fail
  go_ret
  exact ⟨_, rfl, HF.out⟩
end
open Go.RowKit
section
variable {w : World} {F : Nat → Prop} {gs g mo : Nat} {s : Gz} {ua ub uc : Value} {op so na nb nc p q W lo hi : Int} {nm : ByteArray} {R : List Int × Gz}
theorem circ_signExtension (har : ∀ wx, Calls Tryz.prog 60 #[.int .i64 op] wx fun ev w' => ev = .returned (.int .i64 1) ∧ w' = wx) (hof : ∀ wx, Calls Tryz.prog 61 #[.pointer (some ⟨gs, 0, none⟩), .int .i64 op] wx fun ev w' => ev = .returned (.func (.func 77) #[.pointer (some ⟨gs, 0, none⟩)] #[]) ∧ w' = wx)
  (hc : ∀ wx, Below w.heap.size w wx → Calls Tryz.prog 77 #[.pointer (some ⟨gs, 0, none⟩), ua, .int .i64 p, .int .i64 q] wx (WG wx F gs g mo R)) :
  Calls Tryz.prog 49 #[.pointer (some ⟨gs, 0, none⟩), .agg #[.int .i64 op, .int .i64 so, .int .i64 na, .int .i64 nb, .int .i64 nc, .int .i64 p, .int .i64 q, .int .i64 W, .int .u64 lo, .int .u64 hi, .string nm], ua, ub, uc] w (WG w F gs g mo R) := by
 have HAR : Hid _ := har
 have HOF : Hid _ := hof
 have HC : Hid _ := hc
 clear har hof hc
 go_enter Tryz.func49, Tryz.ntmps49
 go_wp2_with fail
 refine (HAR.out _).mono ?_
 rintro ev wz ⟨rfl, hz⟩
 rw [hz]
 clear hz wz
 go_wp2_with fail
 obtain ⟨wb, hwb⟩ : ∃ wb, wb = w.alloc (Obj.cells #[.int .i64 op, .int .i64 so, .int .i64 na, .int .i64 nb, .int .i64 nc, .int .i64 p, .int .i64 q, .int .i64 W, .int .u64 lo, .int .u64 hi, .string nm] 50) := ⟨_, rfl⟩
 rw [← hwb]
 have hnew : wb.heap[w.heap.size]? = some (Obj.cells #[.int .i64 op, .int .i64 so, .int .i64 na, .int .i64 nb, .int .i64 nc, .int .i64 p, .int .i64 q, .int .i64 W, .int .u64 lo, .int .u64 hi, .string nm] 50) := by rw [hwb]; exact heap_alloc_new w _
 have HBW : Hid (Below w.heap.size w wb) := by unfold Hid; rw [hwb]; go_grown
 have d0 : wb.drew.cell? ⟨w.heap.size, 0, none⟩ = some (.int .i64 op) := cell_of (w := wb.drew) hnew 0 rfl
 have d5 : wb.drew.cell? ⟨w.heap.size, 5, none⟩ = some (.int .i64 p) := cell_of (w := wb.drew) hnew 5 rfl
 have d6 : wb.drew.cell? ⟨w.heap.size, 6, none⟩ = some (.int .i64 q) := cell_of (w := wb.drew) hnew 6 rfl
 have HX : Hid (Below w.heap.size w wb.drew) := HBW.out.trans ((drew_b _).mono HBW.out.size)
 clear hwb hnew
 go_region_with (first | (go_at_call 61; refine (HOF.out _).mono ?_; rintro ev wz ⟨rfl, hz⟩; rw [hz]; clear hz wz) | (go_at_call 77; refine (HC.out _ HX.out).mono ?_; rintro ev w5 ⟨u5, rfl, F5, hW5, hG5, hC5⟩))
 all_goals
  have HF : Hid (∃ F', Wd w5 (FG F' gs) u5 R.1 ∧ Gn w5 F' gs g mo R.2 ∧ Ch w w5 (FG F gs) (FG F' gs)) := ⟨F5, hW5, hG5, (Ch.of_below _ HX.out).trans hC5⟩
  clear hW5 hG5 hC5 d0 d5 d6
  go_wp2_with fail
  go_ret
  exact ⟨_, rfl, HF.out⟩
theorem circ_rotationUp (har : ∀ wx, Calls Tryz.prog 60 #[.int .i64 op] wx fun ev w' => ev = .returned (.int .i64 1) ∧ w' = wx) (hof : ∀ wx, Calls Tryz.prog 61 #[.pointer (some ⟨gs, 0, none⟩), .int .i64 op] wx fun ev w' => ev = .returned (.func (.func 78) #[.pointer (some ⟨gs, 0, none⟩)] #[]) ∧ w' = wx)
  (hc : ∀ wx, Below w.heap.size w wx → Calls Tryz.prog 78 #[.pointer (some ⟨gs, 0, none⟩), ua, .int .i64 p, .int .i64 q] wx (WG wx F gs g mo R)) :
  Calls Tryz.prog 49 #[.pointer (some ⟨gs, 0, none⟩), .agg #[.int .i64 op, .int .i64 so, .int .i64 na, .int .i64 nb, .int .i64 nc, .int .i64 p, .int .i64 q, .int .i64 W, .int .u64 lo, .int .u64 hi, .string nm], ua, ub, uc] w (WG w F gs g mo R) := by
 have HAR : Hid _ := har
 have HOF : Hid _ := hof
 have HC : Hid _ := hc
 clear har hof hc
 go_enter Tryz.func49, Tryz.ntmps49
 go_wp2_with fail
 refine (HAR.out _).mono ?_
 rintro ev wz ⟨rfl, hz⟩
 rw [hz]
 clear hz wz
 go_wp2_with fail
 obtain ⟨wb, hwb⟩ : ∃ wb, wb = w.alloc (Obj.cells #[.int .i64 op, .int .i64 so, .int .i64 na, .int .i64 nb, .int .i64 nc, .int .i64 p, .int .i64 q, .int .i64 W, .int .u64 lo, .int .u64 hi, .string nm] 50) := ⟨_, rfl⟩
 rw [← hwb]
 have hnew : wb.heap[w.heap.size]? = some (Obj.cells #[.int .i64 op, .int .i64 so, .int .i64 na, .int .i64 nb, .int .i64 nc, .int .i64 p, .int .i64 q, .int .i64 W, .int .u64 lo, .int .u64 hi, .string nm] 50) := by rw [hwb]; exact heap_alloc_new w _
 have HBW : Hid (Below w.heap.size w wb) := by unfold Hid; rw [hwb]; go_grown
 have d0 : wb.drew.cell? ⟨w.heap.size, 0, none⟩ = some (.int .i64 op) := cell_of (w := wb.drew) hnew 0 rfl
 have d5 : wb.drew.cell? ⟨w.heap.size, 5, none⟩ = some (.int .i64 p) := cell_of (w := wb.drew) hnew 5 rfl
 have d6 : wb.drew.cell? ⟨w.heap.size, 6, none⟩ = some (.int .i64 q) := cell_of (w := wb.drew) hnew 6 rfl
 have HX : Hid (Below w.heap.size w wb.drew) := HBW.out.trans ((drew_b _).mono HBW.out.size)
 clear hwb hnew
 go_region_with (first | (go_at_call 61; refine (HOF.out _).mono ?_; rintro ev wz ⟨rfl, hz⟩; rw [hz]; clear hz wz) | (go_at_call 78; refine (HC.out _ HX.out).mono ?_; rintro ev w5 ⟨u5, rfl, F5, hW5, hG5, hC5⟩))
 all_goals
  have HF : Hid (∃ F', Wd w5 (FG F' gs) u5 R.1 ∧ Gn w5 F' gs g mo R.2 ∧ Ch w w5 (FG F gs) (FG F' gs)) := ⟨F5, hW5, hG5, (Ch.of_below _ HX.out).trans hC5⟩
  clear hW5 hG5 hC5 d0 d5 d6
  go_wp2_with fail
  go_ret
  exact ⟨_, rfl, HF.out⟩
end
open Go.RowKit
section
variable {w : World} {F : Nat → Prop} {gs g mo : Nat} {s : Gz} {ua ub uc : Value} {op so na nb nc p q W lo hi : Int} {nm : ByteArray} {R : List Int × Gz}
theorem circ_rotationDown (har : ∀ wx, Calls Tryz.prog 60 #[.int .i64 op] wx fun ev w' => ev = .returned (.int .i64 1) ∧ w' = wx) (hof : ∀ wx, Calls Tryz.prog 61 #[.pointer (some ⟨gs, 0, none⟩), .int .i64 op] wx fun ev w' => ev = .returned (.func (.func 79) #[.pointer (some ⟨gs, 0, none⟩)] #[]) ∧ w' = wx)
  (hc : ∀ wx, Below w.heap.size w wx → Calls Tryz.prog 79 #[.pointer (some ⟨gs, 0, none⟩), ua, .int .i64 p, .int .i64 q] wx (WG wx F gs g mo R)) :
  Calls Tryz.prog 49 #[.pointer (some ⟨gs, 0, none⟩), .agg #[.int .i64 op, .int .i64 so, .int .i64 na, .int .i64 nb, .int .i64 nc, .int .i64 p, .int .i64 q, .int .i64 W, .int .u64 lo, .int .u64 hi, .string nm], ua, ub, uc] w (WG w F gs g mo R) := by
 have HAR : Hid _ := har
 have HOF : Hid _ := hof
 have HC : Hid _ := hc
 clear har hof hc
 go_enter Tryz.func49, Tryz.ntmps49
 go_wp2_with fail
 refine (HAR.out _).mono ?_
 rintro ev wz ⟨rfl, hz⟩
 rw [hz]
 clear hz wz
 go_wp2_with fail
 obtain ⟨wb, hwb⟩ : ∃ wb, wb = w.alloc (Obj.cells #[.int .i64 op, .int .i64 so, .int .i64 na, .int .i64 nb, .int .i64 nc, .int .i64 p, .int .i64 q, .int .i64 W, .int .u64 lo, .int .u64 hi, .string nm] 50) := ⟨_, rfl⟩
 rw [← hwb]
 have hnew : wb.heap[w.heap.size]? = some (Obj.cells #[.int .i64 op, .int .i64 so, .int .i64 na, .int .i64 nb, .int .i64 nc, .int .i64 p, .int .i64 q, .int .i64 W, .int .u64 lo, .int .u64 hi, .string nm] 50) := by rw [hwb]; exact heap_alloc_new w _
 have HBW : Hid (Below w.heap.size w wb) := by unfold Hid; rw [hwb]; go_grown
 have d0 : wb.drew.cell? ⟨w.heap.size, 0, none⟩ = some (.int .i64 op) := cell_of (w := wb.drew) hnew 0 rfl
 have d5 : wb.drew.cell? ⟨w.heap.size, 5, none⟩ = some (.int .i64 p) := cell_of (w := wb.drew) hnew 5 rfl
 have d6 : wb.drew.cell? ⟨w.heap.size, 6, none⟩ = some (.int .i64 q) := cell_of (w := wb.drew) hnew 6 rfl
 have HX : Hid (Below w.heap.size w wb.drew) := HBW.out.trans ((drew_b _).mono HBW.out.size)
 clear hwb hnew
 go_region_with (first | (go_at_call 61; refine (HOF.out _).mono ?_; rintro ev wz ⟨rfl, hz⟩; rw [hz]; clear hz wz) | (go_at_call 79; refine (HC.out _ HX.out).mono ?_; rintro ev w5 ⟨u5, rfl, F5, hW5, hG5, hC5⟩))
 all_goals
  have HF : Hid (∃ F', Wd w5 (FG F' gs) u5 R.1 ∧ Gn w5 F' gs g mo R.2 ∧ Ch w w5 (FG F gs) (FG F' gs)) := ⟨F5, hW5, hG5, (Ch.of_below _ HX.out).trans hC5⟩
  clear hW5 hG5 hC5 d0 d5 d6
  go_wp2_with fail
  go_ret
  exact ⟨_, rfl, HF.out⟩
theorem circ_repetition (har : ∀ wx, Calls Tryz.prog 60 #[.int .i64 op] wx fun ev w' => ev = .returned (.int .i64 1) ∧ w' = wx) (hof : ∀ wx, Calls Tryz.prog 61 #[.pointer (some ⟨gs, 0, none⟩), .int .i64 op] wx fun ev w' => ev = .returned (.func (.func 80) #[.pointer (some ⟨gs, 0, none⟩)] #[]) ∧ w' = wx)
  (hc : ∀ wx, Below w.heap.size w wx → Calls Tryz.prog 80 #[.pointer (some ⟨gs, 0, none⟩), ua, .int .i64 p, .int .i64 q] wx (WG wx F gs g mo R)) :
  Calls Tryz.prog 49 #[.pointer (some ⟨gs, 0, none⟩), .agg #[.int .i64 op, .int .i64 so, .int .i64 na, .int .i64 nb, .int .i64 nc, .int .i64 p, .int .i64 q, .int .i64 W, .int .u64 lo, .int .u64 hi, .string nm], ua, ub, uc] w (WG w F gs g mo R) := by
 have HAR : Hid _ := har
 have HOF : Hid _ := hof
 have HC : Hid _ := hc
 clear har hof hc
 go_enter Tryz.func49, Tryz.ntmps49
 go_wp2_with fail
 refine (HAR.out _).mono ?_
 rintro ev wz ⟨rfl, hz⟩
 rw [hz]
 clear hz wz
 go_wp2_with fail
 obtain ⟨wb, hwb⟩ : ∃ wb, wb = w.alloc (Obj.cells #[.int .i64 op, .int .i64 so, .int .i64 na, .int .i64 nb, .int .i64 nc, .int .i64 p, .int .i64 q, .int .i64 W, .int .u64 lo, .int .u64 hi, .string nm] 50) := ⟨_, rfl⟩
 rw [← hwb]
 have hnew : wb.heap[w.heap.size]? = some (Obj.cells #[.int .i64 op, .int .i64 so, .int .i64 na, .int .i64 nb, .int .i64 nc, .int .i64 p, .int .i64 q, .int .i64 W, .int .u64 lo, .int .u64 hi, .string nm] 50) := by rw [hwb]; exact heap_alloc_new w _
 have HBW : Hid (Below w.heap.size w wb) := by unfold Hid; rw [hwb]; go_grown
 have d0 : wb.drew.cell? ⟨w.heap.size, 0, none⟩ = some (.int .i64 op) := cell_of (w := wb.drew) hnew 0 rfl
 have d5 : wb.drew.cell? ⟨w.heap.size, 5, none⟩ = some (.int .i64 p) := cell_of (w := wb.drew) hnew 5 rfl
 have d6 : wb.drew.cell? ⟨w.heap.size, 6, none⟩ = some (.int .i64 q) := cell_of (w := wb.drew) hnew 6 rfl
 have HX : Hid (Below w.heap.size w wb.drew) := HBW.out.trans ((drew_b _).mono HBW.out.size)
 clear hwb hnew
 go_region_with (first | (go_at_call 61; refine (HOF.out _).mono ?_; rintro ev wz ⟨rfl, hz⟩; rw [hz]; clear hz wz) | (go_at_call 80; refine (HC.out _ HX.out).mono ?_; rintro ev w5 ⟨u5, rfl, F5, hW5, hG5, hC5⟩))
 all_goals
  have HF : Hid (∃ F', Wd w5 (FG F' gs) u5 R.1 ∧ Gn w5 F' gs g mo R.2 ∧ Ch w w5 (FG F gs) (FG F' gs)) := ⟨F5, hW5, hG5, (Ch.of_below _ HX.out).trans hC5⟩
  clear hW5 hG5 hC5 d0 d5 d6
  go_wp2_with fail
  go_ret
  exact ⟨_, rfl, HF.out⟩
end
end Go.Proofs.YtcahhahbcijkiaaGreat.Ag
