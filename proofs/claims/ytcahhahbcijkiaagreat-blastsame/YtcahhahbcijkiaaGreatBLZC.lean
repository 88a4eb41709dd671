import Derived.Test.YtcahhahbcijkiaaGreatBLZA
namespace Go.Proofs.YtcahhahbcijkiaaGreat.Ag
set_option maxHeartbeats 12800000
set_option maxRecDepth 100000
open Go.RowKit
set_option linter.unusedSimpArgs false
set_option linter.unusedVariables false
section
variable {w : World} {F : Nat → Prop} {gs g mo : Nat} {s : Gz} {ua ub uc : Value} {op so na nb nc p q W lo hi : Int} {nm : ByteArray} {R : List Int × Gz}
theorem circ_sum (har : ∀ wx, Calls Tryz.prog 60 #[.int .i64 op] wx fun ev w' => ev = .returned (.int .i64 2) ∧ w' = wx) (hof : ∀ wx, Calls Tryz.prog 62 #[.pointer (some ⟨gs, 0, none⟩), .int .i64 op] wx fun ev w' => ev = .returned (.func (.func 108) #[.pointer (some ⟨gs, 0, none⟩)] #[]) ∧ w' = wx)
  (hc : ∀ wx, Below w.heap.size w wx → Calls Tryz.prog 108 #[.pointer (some ⟨gs, 0, none⟩), ua, ub] wx (WG wx F gs g mo R)) :
  Calls Tryz.prog 49 #[.pointer (some ⟨gs, 0, none⟩), .agg #[.int .i64 op, .int .i64 so, .int .i64 na, .int .i64 nb, .int .i64 nc, .int .i64 p, .int .i64 q, .int .i64 W, .int .u64 lo, .int .u64 hi, .string nm], ua, ub, uc] w (WG w F gs g mo R) := by
 have HAR : Hid _ := har
 have HOF : Hid _ := hof
 have HC : Hid _ := hc
 clear har hof hc
 go_enter Tryz.func49, Tryz.ntmps49
 go_wp2_with fail
 refine (HAR.out _).mono ?_
 rintro ev wz ⟨rfl, hz⟩
 rw [hz]
 clear hz wz
 go_wp2_with fail
 refine (HOF.out _).mono ?_
 rintro ev wz ⟨rfl, hz⟩
 rw [hz]
 clear hz wz
 go_wp2_with fail
 refine (HC.out _ (by go_grown)).mono ?_
 rintro ev w5 ⟨u5, rfl, F5, hW5, hG5, hC5⟩
 have HF : Hid (∃ F', Wd w5 (FG F' gs) u5 R.1 ∧ Gn w5 F' gs g mo R.2 ∧ Ch w w5 (FG F gs) (FG F' gs)) := ⟨F5, hW5, hG5, (Ch.of_below (FG F gs) (by go_grown)).trans hC5⟩
 clear hW5 hG5 hC5
 go_wp2_with fail
 go_ret
 exact ⟨_, rfl, HF.out⟩
theorem circ_difference (har : ∀ wx, Calls Tryz.prog 60 #[.int .i64 op] wx fun ev w' => ev = .returned (.int .i64 2) ∧ w' = wx) (hof : ∀ wx, Calls Tryz.prog 62 #[.pointer (some ⟨gs, 0, none⟩), .int .i64 op] wx fun ev w' => ev = .returned (.func (.func 109) #[.pointer (some ⟨gs, 0, none⟩)] #[]) ∧ w' = wx)
  (hc : ∀ wx, Below w.heap.size w wx → Calls Tryz.prog 109 #[.pointer (some ⟨gs, 0, none⟩), ua, ub] wx (WG wx F gs g mo R)) :
  Calls Tryz.prog 49 #[.pointer (some ⟨gs, 0, none⟩), .agg #[.int .i64 op, .int .i64 so, .int .i64 na, .int .i64 nb, .int .i64 nc, .int .i64 p, .int .i64 q, .int .i64 W, .int .u64 lo, .int .u64 hi, .string nm], ua, ub, uc] w (WG w F gs g mo R) := by
 have HAR : Hid _ := har
 have HOF : Hid _ := hof
 have HC : Hid _ := hc
 clear har hof hc
 go_enter Tryz.func49, Tryz.ntmps49
 go_wp2_with fail
 refine (HAR.out _).mono ?_
 rintro ev wz ⟨rfl, hz⟩
 rw [hz]
 clear hz wz
 go_wp2_with fail
 refine (HOF.out _).mono ?_
 rintro ev wz ⟨rfl, hz⟩
 rw [hz]
 clear hz wz
 go_wp2_with fail
 refine (HC.out _ (by go_grown)).mono ?_
 rintro ev w5 ⟨u5, rfl, F5, hW5, hG5, hC5⟩
 have HF : Hid (∃ F', Wd w5 (FG F' gs) u5 R.1 ∧ Gn w5 F' gs g mo R.2 ∧ Ch w w5 (FG F gs) (FG F' gs)) := ⟨F5, hW5, hG5, (Ch.of_below (FG F gs) (by go_grown)).trans hC5⟩
 clear hW5 hG5 hC5
 go_wp2_with fail
 go_ret
 exact ⟨_, rfl, HF.out⟩
theorem circ_product (har : ∀ wx, Calls Tryz.prog 60 #[.int .i64 op] wx fun ev w' => ev = .returned (.int .i64 2) ∧ w' = wx) (hof : ∀ wx, Calls Tryz.prog 62 #[.pointer (some ⟨gs, 0, none⟩), .int .i64 op] wx fun ev w' => ev = .returned (.func (.func 110) #[.pointer (some ⟨gs, 0, none⟩)] #[]) ∧ w' = wx)
  (hc : ∀ wx, Below w.heap.size w wx → Calls Tryz.prog 110 #[.pointer (some ⟨gs, 0, none⟩), ua, ub] wx (WG wx F gs g mo R)) :
  Calls Tryz.prog 49 #[.pointer (some ⟨gs, 0, none⟩), .agg #[.int .i64 op, .int .i64 so, .int .i64 na, .int .i64 nb, .int .i64 nc, .int .i64 p, .int .i64 q, .int .i64 W, .int .u64 lo, .int .u64 hi, .string nm], ua, ub, uc] w (WG w F gs g mo R) := by
 have HAR : Hid _ := har
 have HOF : Hid _ := hof
 have HC : Hid _ := hc
 clear har hof hc
 go_enter Tryz.func49, Tryz.ntmps49
 go_wp2_with fail
 refine (HAR.out _).mono ?_
 rintro ev wz ⟨rfl, hz⟩
 rw [hz]
 clear hz wz
 go_wp2_with fail
 refine (HOF.out _).mono ?_
 rintro ev wz ⟨rfl, hz⟩
 rw [hz]
 clear hz wz
 go_wp2_with fail
 refine (HC.out _ (by go_grown)).mono ?_
 rintro ev w5 ⟨u5, rfl, F5, hW5, hG5, hC5⟩
 have HF : Hid (∃ F', Wd w5 (FG F' gs) u5 R.1 ∧ Gn w5 F' gs g mo R.2 ∧ Ch w w5 (FG F gs) (FG F' gs)) := ⟨F5, hW5, hG5, (Ch.of_below (FG F gs) (by go_grown)).trans hC5⟩
 clear hW5 hG5 hC5
 go_wp2_with fail
 go_ret
 exact ⟨_, rfl, HF.out⟩
theorem circ_quotient (har : ∀ wx, Calls Tryz.prog 60 #[.int .i64 op] wx fun ev w' => ev = .returned (.int .i64 2) ∧ w' = wx) (hof : ∀ wx, Calls Tryz.prog 62 #[.pointer (some ⟨gs, 0, none⟩), .int .i64 op] wx fun ev w' => ev = .returned (.func (.func 111) #[.pointer (some ⟨gs, 0, none⟩)] #[]) ∧ w' = wx)
  (hc : ∀ wx, Below w.heap.size w wx → Calls Tryz.prog 111 #[.pointer (some ⟨gs, 0, none⟩), ua, ub] wx (WG wx F gs g mo R)) :
  Calls Tryz.prog 49 #[.pointer (some ⟨gs, 0, none⟩), .agg #[.int .i64 op, .int .i64 so, .int .i64 na, .int .i64 nb, .int .i64 nc, .int .i64 p, .int .i64 q, .int .i64 W, .int .u64 lo, .int .u64 hi, .string nm], ua, ub, uc] w (WG w F gs g mo R) := by
 have HAR : Hid _ := har
 have HOF : Hid _ := hof
 have HC : Hid _ := hc
 clear har hof hc
 go_enter Tryz.func49, Tryz.ntmps49
 go_wp2_with fail
 refine (HAR.out _).mono ?_
 rintro ev wz ⟨rfl, hz⟩
 rw [hz]
 clear hz wz
 go_wp2_with fail
 refine (HOF.out _).mono ?_
 rintro ev wz ⟨rfl, hz⟩
 rw [hz]
 clear hz wz
 go_wp2_with fail
 refine (HC.out _ (by go_grown)).mono ?_
 rintro ev w5 ⟨u5, rfl, F5, hW5, hG5, hC5⟩
 have HF : Hid (∃ F', Wd w5 (FG F' gs) u5 R.1 ∧ Gn w5 F' gs g mo R.2 ∧ Ch w w5 (FG F gs) (FG F' gs)) := ⟨F5, hW5, hG5, (Ch.of_below (FG F gs) (by go_grown)).trans hC5⟩
 clear hW5 hG5 hC5
 go_wp2_with fail
 go_ret
 exact ⟨_, rfl, HF.out⟩
theorem circ_rest (har : ∀ wx, Calls Tryz.prog 60 #[.int .i64 op] wx fun ev w' => ev = .returned (.int .i64 2) ∧ w' = wx) (hof : ∀ wx, Calls Tryz.prog 62 #[.pointer (some ⟨gs, 0, none⟩), .int .i64 op] wx fun ev w' => ev = .returned (.func (.func 112) #[.pointer (some ⟨gs, 0, none⟩)] #[]) ∧ w' = wx)
  (hc : ∀ wx, Below w.heap.size w wx → Calls Tryz.prog 112 #[.pointer (some ⟨gs, 0, none⟩), ua, ub] wx (WG wx F gs g mo R)) :
  Calls Tryz.prog 49 #[.pointer (some ⟨gs, 0, none⟩), .agg #[.int .i64 op, .int .i64 so, .int .i64 na, .int .i64 nb, .int .i64 nc, .int .i64 p, .int .i64 q, .int .i64 W, .int .u64 lo, .int .u64 hi, .string nm], ua, ub, uc] w (WG w F gs g mo R) := by
 have HAR : Hid _ := har
 have HOF : Hid _ := hof
 have HC : Hid _ := hc
 clear har hof hc
 go_enter Tryz.func49, Tryz.ntmps49
 go_wp2_with fail
 refine (HAR.out _).mono ?_
 rintro ev wz ⟨rfl, hz⟩
 rw [hz]
 clear hz wz
 go_wp2_with fail
 refine (HOF.out _).mono ?_
 rintro ev wz ⟨rfl, hz⟩
 rw [hz]
 clear hz wz
 go_wp2_with fail
 refine (HC.out _ (by go_grown)).mono ?_
 rintro ev w5 ⟨u5, rfl, F5, hW5, hG5, hC5⟩
 have HF : Hid (∃ F', Wd w5 (FG F' gs) u5 R.1 ∧ Gn w5 F' gs g mo R.2 ∧ Ch w w5 (FG F gs) (FG F' gs)) := ⟨F5, hW5, hG5, (Ch.of_below (FG F gs) (by go_grown)).trans hC5⟩
 clear hW5 hG5 hC5
 go_wp2_with fail
 go_ret
 exact ⟨_, rfl, HF.out⟩
theorem circ_signedQuotient (har : ∀ wx, Calls Tryz.prog 60 #[.int .i64 op] wx fun ev w' => ev = .returned (.int .i64 2) ∧ w' = wx) (hof : ∀ wx, Calls Tryz.prog 62 #[.pointer (some ⟨gs, 0, none⟩), .int .i64 op] wx fun ev w' => ev = .returned (.func (.func 113) #[.pointer (some ⟨gs, 0, none⟩)] #[]) ∧ w' = wx)
  (hc : ∀ wx, Below w.heap.size w wx → Calls Tryz.prog 113 #[.pointer (some ⟨gs, 0, none⟩), ua, ub] wx (WG wx F gs g mo R)) :
  Calls Tryz.prog 49 #[.pointer (some ⟨gs, 0, none⟩), .agg #[.int .i64 op, .int .i64 so, .int .i64 na, .int .i64 nb, .int .i64 nc, .int .i64 p, .int .i64 q, .int .i64 W, .int .u64 lo, .int .u64 hi, .string nm], ua, ub, uc] w (WG w F gs g mo R) := by
 have HAR : Hid _ := har
 have HOF : Hid _ := hof
 have HC : Hid _ := hc
 clear har hof hc
 go_enter Tryz.func49, Tryz.ntmps49
 go_wp2_with fail
 refine (HAR.out _).mono ?_
 rintro ev wz ⟨rfl, hz⟩
 rw [hz]
 clear hz wz
 go_wp2_with fail
 refine (HOF.out _).mono ?_
 rintro ev wz ⟨rfl, hz⟩
 rw [hz]
 clear hz wz
 go_wp2_with fail
 refine (HC.out _ (by go_grown)).mono ?_
 rintro ev w5 ⟨u5, rfl, F5, hW5, hG5, hC5⟩
 have HF : Hid (∃ F', Wd w5 (FG F' gs) u5 R.1 ∧ Gn w5 F' gs g mo R.2 ∧ Ch w w5 (FG F gs) (FG F' gs)) := ⟨F5, hW5, hG5, (Ch.of_below (FG F gs) (by go_grown)).trans hC5⟩
 clear hW5 hG5 hC5
 go_wp2_with fail
 go_ret
 exact ⟨_, rfl, HF.out⟩
theorem circ_signedRest (har : ∀ wx, Calls Tryz.prog 60 #[.int .i64 op] wx fun ev w' => ev = .returned (.int .i64 2) ∧ w' = wx) (hof : ∀ wx, Calls Tryz.prog 62 #[.pointer (some ⟨gs, 0, none⟩), .int .i64 op] wx fun ev w' => ev = .returned (.func (.func 114) #[.pointer (some ⟨gs, 0, none⟩)] #[]) ∧ w' = wx)
  (hc : ∀ wx, Below w.heap.size w wx → Calls Tryz.prog 114 #[.pointer (some ⟨gs, 0, none⟩), ua, ub] wx (WG wx F gs g mo R)) :
  Calls Tryz.prog 49 #[.pointer (some ⟨gs, 0, none⟩), .agg #[.int .i64 op, .int .i64 so, .int .i64 na, .int .i64 nb, .int .i64 nc, .int .i64 p, .int .i64 q, .int .i64 W, .int .u64 lo, .int .u64 hi, .string nm], ua, ub, uc] w (WG w F gs g mo R) := by
 have HAR : Hid _ := har
 have HOF : Hid _ := hof
 have HC : Hid _ := hc
 clear har hof hc
 go_enter Tryz.func49, Tryz.ntmps49
 go_wp2_with fail
 refine (HAR.out _).mono ?_
 rintro ev wz ⟨rfl, hz⟩
 rw [hz]
 clear hz wz
 go_wp2_with fail
 refine (HOF.out _).mono ?_
 rintro ev wz ⟨rfl, hz⟩
 rw [hz]
 clear hz wz
 go_wp2_with fail
 refine (HC.out _ (by go_grown)).mono ?_
 rintro ev w5 ⟨u5, rfl, F5, hW5, hG5, hC5⟩
 have HF : Hid (∃ F', Wd w5 (FG F' gs) u5 R.1 ∧ Gn w5 F' gs g mo R.2 ∧ Ch w w5 (FG F gs) (FG F' gs)) := ⟨F5, hW5, hG5, (Ch.of_below (FG F gs) (by go_grown)).trans hC5⟩
 clear hW5 hG5 hC5
 go_wp2_with fail
 go_ret
 exact ⟨_, rfl, HF.out⟩
theorem circ_signedModulus (har : ∀ wx, Calls Tryz.prog 60 #[.int .i64 op] wx fun ev w' => ev = .returned (.int .i64 2) ∧ w' = wx) (hof : ∀ wx, Calls Tryz.prog 62 #[.pointer (some ⟨gs, 0, none⟩), .int .i64 op] wx fun ev w' => ev = .returned (.func (.func 115) #[.pointer (some ⟨gs, 0, none⟩)] #[]) ∧ w' = wx)
  (hc : ∀ wx, Below w.heap.size w wx → Calls Tryz.prog 115 #[.pointer (some ⟨gs, 0, none⟩), ua, ub] wx (WG wx F gs g mo R)) :
  Calls Tryz.prog 49 #[.pointer (some ⟨gs, 0, none⟩), .agg #[.int .i64 op, .int .i64 so, .int .i64 na, .int .i64 nb, .int .i64 nc, .int .i64 p, .int .i64 q, .int .i64 W, .int .u64 lo, .int .u64 hi, .string nm], ua, ub, uc] w (WG w F gs g mo R) := by
 have HAR : Hid _ := har
 have HOF : Hid _ := hof
 have HC : Hid _ := hc
 clear har hof hc
 go_enter Tryz.func49, Tryz.ntmps49
 go_wp2_with fail
 refine (HAR.out _).mono ?_
 rintro ev wz ⟨rfl, hz⟩
 rw [hz]
 clear hz wz
 go_wp2_with fail
 refine (HOF.out _).mono ?_
 rintro ev wz ⟨rfl, hz⟩
 rw [hz]
 clear hz wz
 go_wp2_with fail
 refine (HC.out _ (by go_grown)).mono ?_
 rintro ev w5 ⟨u5, rfl, F5, hW5, hG5, hC5⟩
 have HF : Hid (∃ F', Wd w5 (FG F' gs) u5 R.1 ∧ Gn w5 F' gs g mo R.2 ∧ Ch w w5 (FG F gs) (FG F' gs)) := ⟨F5, hW5, hG5, (Ch.of_below (FG F gs) (by go_grown)).trans hC5⟩
 clear hW5 hG5 hC5
 go_wp2_with fail
 go_ret
 exact ⟨_, rfl, HF.out⟩
theorem circ_shiftUp (har : ∀ wx, Calls Tryz.prog 60 #[.int .i64 op] wx fun ev w' => ev = .returned (.int .i64 2) ∧ w' = wx) (hof : ∀ wx, Calls Tryz.prog 62 #[.pointer (some ⟨gs, 0, none⟩), .int .i64 op] wx fun ev w' => ev = .returned (.func (.func 116) #[.pointer (some ⟨gs, 0, none⟩)] #[]) ∧ w' = wx)
  (hc : ∀ wx, Below w.heap.size w wx → Calls Tryz.prog 116 #[.pointer (some ⟨gs, 0, none⟩), ua, ub] wx (WG wx F gs g mo R)) :
  Calls Tryz.prog 49 #[.pointer (some ⟨gs, 0, none⟩), .agg #[.int .i64 op, .int .i64 so, .int .i64 na, .int .i64 nb, .int .i64 nc, .int .i64 p, .int .i64 q, .int .i64 W, .int .u64 lo, .int .u64 hi, .string nm], ua, ub, uc] w (WG w F gs g mo R) := by
 have HAR : Hid _ := har
 have HOF : Hid _ := hof
 have HC : Hid _ := hc
 clear har hof hc
 go_enter Tryz.func49, Tryz.ntmps49
 go_wp2_with fail
 refine (HAR.out _).mono ?_
 rintro ev wz ⟨rfl, hz⟩
 rw [hz]
 clear hz wz
 go_wp2_with fail
 refine (HOF.out _).mono ?_
 rintro ev wz ⟨rfl, hz⟩
 rw [hz]
 clear hz wz
 go_wp2_with fail
 refine (HC.out _ (by go_grown)).mono ?_
 rintro ev w5 ⟨u5, rfl, F5, hW5, hG5, hC5⟩
 have HF : Hid (∃ F', Wd w5 (FG F' gs) u5 R.1 ∧ Gn w5 F' gs g mo R.2 ∧ Ch w w5 (FG F gs) (FG F' gs)) := ⟨F5, hW5, hG5, (Ch.of_below (FG F gs) (by go_grown)).trans hC5⟩
 clear hW5 hG5 hC5
 go_wp2_with fail
 go_ret
 exact ⟨_, rfl, HF.out⟩
theorem circ_shiftDown (har : ∀ wx, Calls Tryz.prog 60 #[.int .i64 op] wx fun ev w' => ev = .returned (.int .i64 2) ∧ w' = wx) (hof : ∀ wx, Calls Tryz.prog 62 #[.pointer (some ⟨gs, 0, none⟩), .int .i64 op] wx fun ev w' => ev = .returned (.func (.func 117) #[.pointer (some ⟨gs, 0, none⟩)] #[]) ∧ w' = wx)
  (hc : ∀ wx, Below w.heap.size w wx → Calls Tryz.prog 117 #[.pointer (some ⟨gs, 0, none⟩), ua, ub] wx (WG wx F gs g mo R)) :
  Calls Tryz.prog 49 #[.pointer (some ⟨gs, 0, none⟩), .agg #[.int .i64 op, .int .i64 so, .int .i64 na, .int .i64 nb, .int .i64 nc, .int .i64 p, .int .i64 q, .int .i64 W, .int .u64 lo, .int .u64 hi, .string nm], ua, ub, uc] w (WG w F gs g mo R) := by
 have HAR : Hid _ := har
 have HOF : Hid _ := hof
 have HC : Hid _ := hc
 clear har hof hc
 go_enter Tryz.func49, Tryz.ntmps49
 go_wp2_with fail
 refine (HAR.out _).mono ?_
 rintro ev wz ⟨rfl, hz⟩
 rw [hz]
 clear hz wz
 go_wp2_with fail
 refine (HOF.out _).mono ?_
 rintro ev wz ⟨rfl, hz⟩
 rw [hz]
 clear hz wz
 go_wp2_with fail
 refine (HC.out _ (by go_grown)).mono ?_
 rintro ev w5 ⟨u5, rfl, F5, hW5, hG5, hC5⟩
 have HF : Hid (∃ F', Wd w5 (FG F' gs) u5 R.1 ∧ Gn w5 F' gs g mo R.2 ∧ Ch w w5 (FG F gs) (FG F' gs)) := ⟨F5, hW5, hG5, (Ch.of_below (FG F gs) (by go_grown)).trans hC5⟩
 clear hW5 hG5 hC5
 go_wp2_with fail
 go_ret
 exact ⟨_, rfl, HF.out⟩
theorem circ_signedShiftDown (har : ∀ wx, Calls Tryz.prog 60 #[.int .i64 op] wx fun ev w' => ev = .returned (.int .i64 2) ∧ w' = wx) (hof : ∀ wx, Calls Tryz.prog 62 #[.pointer (some ⟨gs, 0, none⟩), .int .i64 op] wx fun ev w' => ev = .returned (.func (.func 118) #[.pointer (some ⟨gs, 0, none⟩)] #[]) ∧ w' = wx)
  (hc : ∀ wx, Below w.heap.size w wx → Calls Tryz.prog 118 #[.pointer (some ⟨gs, 0, none⟩), ua, ub] wx (WG wx F gs g mo R)) :
  Calls Tryz.prog 49 #[.pointer (some ⟨gs, 0, none⟩), .agg #[.int .i64 op, .int .i64 so, .int .i64 na, .int .i64 nb, .int .i64 nc, .int .i64 p, .int .i64 q, .int .i64 W, .int .u64 lo, .int .u64 hi, .string nm], ua, ub, uc] w (WG w F gs g mo R) := by
 have HAR : Hid _ := har
 have HOF : Hid _ := hof
 have HC : Hid _ := hc
 clear har hof hc
 go_enter Tryz.func49, Tryz.ntmps49
 go_wp2_with fail
 refine (HAR.out _).mono ?_
 rintro ev wz ⟨rfl, hz⟩
 rw [hz]
 clear hz wz
 go_wp2_with fail
 refine (HOF.out _).mono ?_
 rintro ev wz ⟨rfl, hz⟩
 rw [hz]
 clear hz wz
 go_wp2_with fail
 refine (HC.out _ (by go_grown)).mono ?_
 rintro ev w5 ⟨u5, rfl, F5, hW5, hG5, hC5⟩
 have HF : Hid (∃ F', Wd w5 (FG F' gs) u5 R.1 ∧ Gn w5 F' gs g mo R.2 ∧ Ch w w5 (FG F gs) (FG F' gs)) := ⟨F5, hW5, hG5, (Ch.of_below (FG F gs) (by go_grown)).trans hC5⟩
 clear hW5 hG5 hC5
 go_wp2_with fail
 go_ret
 exact ⟨_, rfl, HF.out⟩
theorem circ_less (har : ∀ wx, Calls Tryz.prog 60 #[.int .i64 op] wx fun ev w' => ev = .returned (.int .i64 2) ∧ w' = wx) (hof : ∀ wx, Calls Tryz.prog 62 #[.pointer (some ⟨gs, 0, none⟩), .int .i64 op] wx fun ev w' => ev = .returned (.func (.func 119) #[.pointer (some ⟨gs, 0, none⟩)] #[]) ∧ w' = wx)
  (hc : ∀ wx, Below w.heap.size w wx → Calls Tryz.prog 119 #[.pointer (some ⟨gs, 0, none⟩), ua, ub] wx (WG wx F gs g mo R)) :
  Calls Tryz.prog 49 #[.pointer (some ⟨gs, 0, none⟩), .agg #[.int .i64 op, .int .i64 so, .int .i64 na, .int .i64 nb, .int .i64 nc, .int .i64 p, .int .i64 q, .int .i64 W, .int .u64 lo, .int .u64 hi, .string nm], ua, ub, uc] w (WG w F gs g mo R) := by
 have HAR : Hid _ := har
 have HOF : Hid _ := hof
 have HC : Hid _ := hc
 clear har hof hc
 go_enter Tryz.func49, Tryz.ntmps49
 go_wp2_with fail
 refine (HAR.out _).mono ?_
 rintro ev wz ⟨rfl, hz⟩
 rw [hz]
 clear hz wz
 go_wp2_with fail
 refine (HOF.out _).mono ?_
 rintro ev wz ⟨rfl, hz⟩
 rw [hz]
 clear hz wz
 go_wp2_with fail
 refine (HC.out _ (by go_grown)).mono ?_
 rintro ev w5 ⟨u5, rfl, F5, hW5, hG5, hC5⟩
 have HF : Hid (∃ F', Wd w5 (FG F' gs) u5 R.1 ∧ Gn w5 F' gs g mo R.2 ∧ Ch w w5 (FG F gs) (FG F' gs)) := ⟨F5, hW5, hG5, (Ch.of_below (FG F gs) (by go_grown)).trans hC5⟩
 clear hW5 hG5 hC5
 go_wp2_with fail
 go_ret
 exact ⟨_, rfl, HF.out⟩
theorem circ_atMost (har : ∀ wx, Calls Tryz.prog 60 #[.int .i64 op] wx fun ev w' => ev = .returned (.int .i64 2) ∧ w' = wx) (hof : ∀ wx, Calls Tryz.prog 62 #[.pointer (some ⟨gs, 0, none⟩), .int .i64 op] wx fun ev w' => ev = .returned (.func (.func 120) #[.pointer (some ⟨gs, 0, none⟩)] #[]) ∧ w' = wx)
  (hc : ∀ wx, Below w.heap.size w wx → Calls Tryz.prog 120 #[.pointer (some ⟨gs, 0, none⟩), ua, ub] wx (WG wx F gs g mo R)) :
  Calls Tryz.prog 49 #[.pointer (some ⟨gs, 0, none⟩), .agg #[.int .i64 op, .int .i64 so, .int .i64 na, .int .i64 nb, .int .i64 nc, .int .i64 p, .int .i64 q, .int .i64 W, .int .u64 lo, .int .u64 hi, .string nm], ua, ub, uc] w (WG w F gs g mo R) := by
 have HAR : Hid _ := har
 have HOF : Hid _ := hof
 have HC : Hid _ := hc
 clear har hof hc
 go_enter Tryz.func49, Tryz.ntmps49
 go_wp2_with fail
 refine (HAR.out _).mono ?_
 rintro ev wz ⟨rfl, hz⟩
 rw [hz]
 clear hz wz
 go_wp2_with fail
 refine (HOF.out _).mono ?_
 rintro ev wz ⟨rfl, hz⟩
 rw [hz]
 clear hz wz
 go_wp2_with fail
 refine (HC.out _ (by go_grown)).mono ?_
 rintro ev w5 ⟨u5, rfl, F5, hW5, hG5, hC5⟩
 have HF : Hid (∃ F', Wd w5 (FG F' gs) u5 R.1 ∧ Gn w5 F' gs g mo R.2 ∧ Ch w w5 (FG F gs) (FG F' gs)) := ⟨F5, hW5, hG5, (Ch.of_below (FG F gs) (by go_grown)).trans hC5⟩
 clear hW5 hG5 hC5
 go_wp2_with fail
 go_ret
 exact ⟨_, rfl, HF.out⟩
theorem circ_greater (har : ∀ wx, Calls Tryz.prog 60 #[.int .i64 op] wx fun ev w' => ev = .returned (.int .i64 2) ∧ w' = wx) (hof : ∀ wx, Calls Tryz.prog 62 #[.pointer (some ⟨gs, 0, none⟩), .int .i64 op] wx fun ev w' => ev = .returned (.func (.func 121) #[.pointer (some ⟨gs, 0, none⟩)] #[]) ∧ w' = wx)
  (hc : ∀ wx, Below w.heap.size w wx → Calls Tryz.prog 121 #[.pointer (some ⟨gs, 0, none⟩), ua, ub] wx (WG wx F gs g mo R)) :
  Calls Tryz.prog 49 #[.pointer (some ⟨gs, 0, none⟩), .agg #[.int .i64 op, .int .i64 so, .int .i64 na, .int .i64 nb, .int .i64 nc, .int .i64 p, .int .i64 q, .int .i64 W, .int .u64 lo, .int .u64 hi, .string nm], ua, ub, uc] w (WG w F gs g mo R) := by
 have HAR : Hid _ := har
 have HOF : Hid _ := hof
 have HC : Hid _ := hc
 clear har hof hc
 go_enter Tryz.func49, Tryz.ntmps49
 go_wp2_with fail
 refine (HAR.out _).mono ?_
 rintro ev wz ⟨rfl, hz⟩
 rw [hz]
 clear hz wz
 go_wp2_with fail
 refine (HOF.out _).mono ?_
 rintro ev wz ⟨rfl, hz⟩
 rw [hz]
 clear hz wz
 go_wp2_with fail
 refine (HC.out _ (by go_grown)).mono ?_
 rintro ev w5 ⟨u5, rfl, F5, hW5, hG5, hC5⟩
 have HF : Hid (∃ F', Wd w5 (FG F' gs) u5 R.1 ∧ Gn w5 F' gs g mo R.2 ∧ Ch w w5 (FG F gs) (FG F' gs)) := ⟨F5, hW5, hG5, (Ch.of_below (FG F gs) (by go_grown)).trans hC5⟩
 clear hW5 hG5 hC5
 go_wp2_with fail
 go_ret
 exact ⟨_, rfl, HF.out⟩
theorem circ_atLeast (har : ∀ wx, Calls Tryz.prog 60 #[.int .i64 op] wx fun ev w' => ev = .returned (.int .i64 2) ∧ w' = wx) (hof : ∀ wx, Calls Tryz.prog 62 #[.pointer (some ⟨gs, 0, none⟩), .int .i64 op] wx fun ev w' => ev = .returned (.func (.func 122) #[.pointer (some ⟨gs, 0, none⟩)] #[]) ∧ w' = wx)
  (hc : ∀ wx, Below w.heap.size w wx → Calls Tryz.prog 122 #[.pointer (some ⟨gs, 0, none⟩), ua, ub] wx (WG wx F gs g mo R)) :
  Calls Tryz.prog 49 #[.pointer (some ⟨gs, 0, none⟩), .agg #[.int .i64 op, .int .i64 so, .int .i64 na, .int .i64 nb, .int .i64 nc, .int .i64 p, .int .i64 q, .int .i64 W, .int .u64 lo, .int .u64 hi, .string nm], ua, ub, uc] w (WG w F gs g mo R) := by
 have HAR : Hid _ := har
 have HOF : Hid _ := hof
 have HC : Hid _ := hc
 clear har hof hc
 go_enter Tryz.func49, Tryz.ntmps49
 go_wp2_with fail
 refine (HAR.out _).mono ?_
 rintro ev wz ⟨rfl, hz⟩
 rw [hz]
 clear hz wz
 go_wp2_with fail
 refine (HOF.out _).mono ?_
 rintro ev wz ⟨rfl, hz⟩
 rw [hz]
 clear hz wz
 go_wp2_with fail
 refine (HC.out _ (by go_grown)).mono ?_
 rintro ev w5 ⟨u5, rfl, F5, hW5, hG5, hC5⟩
 have HF : Hid (∃ F', Wd w5 (FG F' gs) u5 R.1 ∧ Gn w5 F' gs g mo R.2 ∧ Ch w w5 (FG F gs) (FG F' gs)) := ⟨F5, hW5, hG5, (Ch.of_below (FG F gs) (by go_grown)).trans hC5⟩
 clear hW5 hG5 hC5
 go_wp2_with fail
 go_ret
 exact ⟨_, rfl, HF.out⟩
theorem circ_signedLess (har : ∀ wx, Calls Tryz.prog 60 #[.int .i64 op] wx fun ev w' => ev = .returned (.int .i64 2) ∧ w' = wx) (hof : ∀ wx, Calls Tryz.prog 62 #[.pointer (some ⟨gs, 0, none⟩), .int .i64 op] wx fun ev w' => ev = .returned (.func (.func 123) #[.pointer (some ⟨gs, 0, none⟩)] #[]) ∧ w' = wx)
  (hc : ∀ wx, Below w.heap.size w wx → Calls Tryz.prog 123 #[.pointer (some ⟨gs, 0, none⟩), ua, ub] wx (WG wx F gs g mo R)) :
  Calls Tryz.prog 49 #[.pointer (some ⟨gs, 0, none⟩), .agg #[.int .i64 op, .int .i64 so, .int .i64 na, .int .i64 nb, .int .i64 nc, .int .i64 p, .int .i64 q, .int .i64 W, .int .u64 lo, .int .u64 hi, .string nm], ua, ub, uc] w (WG w F gs g mo R) := by
 have HAR : Hid _ := har
 have HOF : Hid _ := hof
 have HC : Hid _ := hc
 clear har hof hc
 go_enter Tryz.func49, Tryz.ntmps49
 go_wp2_with fail
 refine (HAR.out _).mono ?_
 rintro ev wz ⟨rfl, hz⟩
 rw [hz]
 clear hz wz
 go_wp2_with fail
 refine (HOF.out _).mono ?_
 rintro ev wz ⟨rfl, hz⟩
 rw [hz]
 clear hz wz
 go_wp2_with fail
 refine (HC.out _ (by go_grown)).mono ?_
 rintro ev w5 ⟨u5, rfl, F5, hW5, hG5, hC5⟩
 have HF : Hid (∃ F', Wd w5 (FG F' gs) u5 R.1 ∧ Gn w5 F' gs g mo R.2 ∧ Ch w w5 (FG F gs) (FG F' gs)) := ⟨F5, hW5, hG5, (Ch.of_below (FG F gs) (by go_grown)).trans hC5⟩
 clear hW5 hG5 hC5
 go_wp2_with fail
 go_ret
 exact ⟨_, rfl, HF.out⟩
theorem circ_signedAtMost (har : ∀ wx, Calls Tryz.prog 60 #[.int .i64 op] wx fun ev w' => ev = .returned (.int .i64 2) ∧ w' = wx) (hof : ∀ wx, Calls Tryz.prog 62 #[.pointer (some ⟨gs, 0, none⟩), .int .i64 op] wx fun ev w' => ev = .returned (.func (.func 124) #[.pointer (some ⟨gs, 0, none⟩)] #[]) ∧ w' = wx)
  (hc : ∀ wx, Below w.heap.size w wx → Calls Tryz.prog 124 #[.pointer (some ⟨gs, 0, none⟩), ua, ub] wx (WG wx F gs g mo R)) :
  Calls Tryz.prog 49 #[.pointer (some ⟨gs, 0, none⟩), .agg #[.int .i64 op, .int .i64 so, .int .i64 na, .int .i64 nb, .int .i64 nc, .int .i64 p, .int .i64 q, .int .i64 W, .int .u64 lo, .int .u64 hi, .string nm], ua, ub, uc] w (WG w F gs g mo R) := by
 have HAR : Hid _ := har
 have HOF : Hid _ := hof
 have HC : Hid _ := hc
 clear har hof hc
 go_enter Tryz.func49, Tryz.ntmps49
 go_wp2_with fail
 refine (HAR.out _).mono ?_
 rintro ev wz ⟨rfl, hz⟩
 rw [hz]
 clear hz wz
 go_wp2_with fail
 refine (HOF.out _).mono ?_
 rintro ev wz ⟨rfl, hz⟩
 rw [hz]
 clear hz wz
 go_wp2_with fail
 refine (HC.out _ (by go_grown)).mono ?_
 rintro ev w5 ⟨u5, rfl, F5, hW5, hG5, hC5⟩
 have HF : Hid (∃ F', Wd w5 (FG F' gs) u5 R.1 ∧ Gn w5 F' gs g mo R.2 ∧ Ch w w5 (FG F gs) (FG F' gs)) := ⟨F5, hW5, hG5, (Ch.of_below (FG F gs) (by go_grown)).trans hC5⟩
 clear hW5 hG5 hC5
 go_wp2_with fail
 go_ret
 exact ⟨_, rfl, HF.out⟩
theorem circ_signedGreater (har : ∀ wx, Calls Tryz.prog 60 #[.int .i64 op] wx fun ev w' => ev = .returned (.int .i64 2) ∧ w' = wx) (hof : ∀ wx, Calls Tryz.prog 62 #[.pointer (some ⟨gs, 0, none⟩), .int .i64 op] wx fun ev w' => ev = .returned (.func (.func 125) #[.pointer (some ⟨gs, 0, none⟩)] #[]) ∧ w' = wx)
  (hc : ∀ wx, Below w.heap.size w wx → Calls Tryz.prog 125 #[.pointer (some ⟨gs, 0, none⟩), ua, ub] wx (WG wx F gs g mo R)) :
  Calls Tryz.prog 49 #[.pointer (some ⟨gs, 0, none⟩), .agg #[.int .i64 op, .int .i64 so, .int .i64 na, .int .i64 nb, .int .i64 nc, .int .i64 p, .int .i64 q, .int .i64 W, .int .u64 lo, .int .u64 hi, .string nm], ua, ub, uc] w (WG w F gs g mo R) := by
 have HAR : Hid _ := har
 have HOF : Hid _ := hof
 have HC : Hid _ := hc
 clear har hof hc
 go_enter Tryz.func49, Tryz.ntmps49
 go_wp2_with fail
 refine (HAR.out _).mono ?_
 rintro ev wz ⟨rfl, hz⟩
 rw [hz]
 clear hz wz
 go_wp2_with fail
 refine (HOF.out _).mono ?_
 rintro ev wz ⟨rfl, hz⟩
 rw [hz]
 clear hz wz
 go_wp2_with fail
 refine (HC.out _ (by go_grown)).mono ?_
 rintro ev w5 ⟨u5, rfl, F5, hW5, hG5, hC5⟩
 have HF : Hid (∃ F', Wd w5 (FG F' gs) u5 R.1 ∧ Gn w5 F' gs g mo R.2 ∧ Ch w w5 (FG F gs) (FG F' gs)) := ⟨F5, hW5, hG5, (Ch.of_below (FG F gs) (by go_grown)).trans hC5⟩
 clear hW5 hG5 hC5
 go_wp2_with fail
 go_ret
 exact ⟨_, rfl, HF.out⟩
theorem circ_signedAtLeast (har : ∀ wx, Calls Tryz.prog 60 #[.int .i64 op] wx fun ev w' => ev = .returned (.int .i64 2) ∧ w' = wx) (hof : ∀ wx, Calls Tryz.prog 62 #[.pointer (some ⟨gs, 0, none⟩), .int .i64 op] wx fun ev w' => ev = .returned (.func (.func 126) #[.pointer (some ⟨gs, 0, none⟩)] #[]) ∧ w' = wx)
  (hc : ∀ wx, Below w.heap.size w wx → Calls Tryz.prog 126 #[.pointer (some ⟨gs, 0, none⟩), ua, ub] wx (WG wx F gs g mo R)) :
  Calls Tryz.prog 49 #[.pointer (some ⟨gs, 0, none⟩), .agg #[.int .i64 op, .int .i64 so, .int .i64 na, .int .i64 nb, .int .i64 nc, .int .i64 p, .int .i64 q, .int .i64 W, .int .u64 lo, .int .u64 hi, .string nm], ua, ub, uc] w (WG w F gs g mo R) := by
 have HAR : Hid _ := har
 have HOF : Hid _ := hof
 have HC : Hid _ := hc
 clear har hof hc
 go_enter Tryz.func49, Tryz.ntmps49
 go_wp2_with fail
 refine (HAR.out _).mono ?_
 rintro ev wz ⟨rfl, hz⟩
 rw [hz]
 clear hz wz
 go_wp2_with fail
 refine (HOF.out _).mono ?_
 rintro ev wz ⟨rfl, hz⟩
 rw [hz]
 clear hz wz
 go_wp2_with fail
 refine (HC.out _ (by go_grown)).mono ?_
 rintro ev w5 ⟨u5, rfl, F5, hW5, hG5, hC5⟩
 have HF : Hid (∃ F', Wd w5 (FG F' gs) u5 R.1 ∧ Gn w5 F' gs g mo R.2 ∧ Ch w w5 (FG F gs) (FG F' gs)) := ⟨F5, hW5, hG5, (Ch.of_below (FG F gs) (by go_grown)).trans hC5⟩
 clear hW5 hG5 hC5
 go_wp2_with fail
 go_ret
 exact ⟨_, rfl, HF.out⟩
theorem circ_both (har : ∀ wx, Calls Tryz.prog 60 #[.int .i64 op] wx fun ev w' => ev = .returned (.int .i64 2) ∧ w' = wx) (hof : ∀ wx, Calls Tryz.prog 62 #[.pointer (some ⟨gs, 0, none⟩), .int .i64 op] wx fun ev w' => ev = .returned (.func (.func 84) #[.pointer (some ⟨gs, 0, none⟩)] #[]) ∧ w' = wx)
  (hc : ∀ wx, Below w.heap.size w wx → Calls Tryz.prog 84 #[.pointer (some ⟨gs, 0, none⟩), ua, ub] wx (WG wx F gs g mo R)) :
  Calls Tryz.prog 49 #[.pointer (some ⟨gs, 0, none⟩), .agg #[.int .i64 op, .int .i64 so, .int .i64 na, .int .i64 nb, .int .i64 nc, .int .i64 p, .int .i64 q, .int .i64 W, .int .u64 lo, .int .u64 hi, .string nm], ua, ub, uc] w (WG w F gs g mo R) := by
 have HAR : Hid _ := har
 have HOF : Hid _ := hof
 have HC : Hid _ := hc
 clear har hof hc
 go_enter Tryz.func49, Tryz.ntmps49
 go_wp2_with fail
 refine (HAR.out _).mono ?_
 rintro ev wz ⟨rfl, hz⟩
 rw [hz]
 clear hz wz
 go_wp2_with fail
 refine (HOF.out _).mono ?_
 rintro ev wz ⟨rfl, hz⟩
 rw [hz]
 clear hz wz
 go_wp2_with fail
 refine (HC.out _ (by go_grown)).mono ?_
 rintro ev w5 ⟨u5, rfl, F5, hW5, hG5, hC5⟩
 have HF : Hid (∃ F', Wd w5 (FG F' gs) u5 R.1 ∧ Gn w5 F' gs g mo R.2 ∧ Ch w w5 (FG F gs) (FG F' gs)) := ⟨F5, hW5, hG5, (Ch.of_below (FG F gs) (by go_grown)).trans hC5⟩
 clear hW5 hG5 hC5
 go_wp2_with fail
 go_ret
 exact ⟨_, rfl, HF.out⟩
theorem circ_either (har : ∀ wx, Calls Tryz.prog 60 #[.int .i64 op] wx fun ev w' => ev = .returned (.int .i64 2) ∧ w' = wx) (hof : ∀ wx, Calls Tryz.prog 62 #[.pointer (some ⟨gs, 0, none⟩), .int .i64 op] wx fun ev w' => ev = .returned (.func (.func 85) #[.pointer (some ⟨gs, 0, none⟩)] #[]) ∧ w' = wx)
  (hc : ∀ wx, Below w.heap.size w wx → Calls Tryz.prog 85 #[.pointer (some ⟨gs, 0, none⟩), ua, ub] wx (WG wx F gs g mo R)) :
  Calls Tryz.prog 49 #[.pointer (some ⟨gs, 0, none⟩), .agg #[.int .i64 op, .int .i64 so, .int .i64 na, .int .i64 nb, .int .i64 nc, .int .i64 p, .int .i64 q, .int .i64 W, .int .u64 lo, .int .u64 hi, .string nm], ua, ub, uc] w (WG w F gs g mo R) := by
 have HAR : Hid _ := har
 have HOF : Hid _ := hof
 have HC : Hid _ := hc
 clear har hof hc
 go_enter Tryz.func49, Tryz.ntmps49
 go_wp2_with fail
 refine (HAR.out _).mono ?_
 rintro ev wz ⟨rfl, hz⟩
 rw [hz]
 clear hz wz
 go_wp2_with fail
 refine (HOF.out _).mono ?_
 rintro ev wz ⟨rfl, hz⟩
 rw [hz]
 clear hz wz
 go_wp2_with fail
 refine (HC.out _ (by go_grown)).mono ?_
 rintro ev w5 ⟨u5, rfl, F5, hW5, hG5, hC5⟩
 have HF : Hid (∃ F', Wd w5 (FG F' gs) u5 R.1 ∧ Gn w5 F' gs g mo R.2 ∧ Ch w w5 (FG F gs) (FG F' gs)) := ⟨F5, hW5, hG5, (Ch.of_below (FG F gs) (by go_grown)).trans hC5⟩
 clear hW5 hG5 hC5
 go_wp2_with fail
 go_ret
 exact ⟨_, rfl, HF.out⟩
theorem circ_unlike (har : ∀ wx, Calls Tryz.prog 60 #[.int .i64 op] wx fun ev w' => ev = .returned (.int .i64 2) ∧ w' = wx) (hof : ∀ wx, Calls Tryz.prog 62 #[.pointer (some ⟨gs, 0, none⟩), .int .i64 op] wx fun ev w' => ev = .returned (.func (.func 86) #[.pointer (some ⟨gs, 0, none⟩)] #[]) ∧ w' = wx)
  (hc : ∀ wx, Below w.heap.size w wx → Calls Tryz.prog 86 #[.pointer (some ⟨gs, 0, none⟩), ua, ub] wx (WG wx F gs g mo R)) :
  Calls Tryz.prog 49 #[.pointer (some ⟨gs, 0, none⟩), .agg #[.int .i64 op, .int .i64 so, .int .i64 na, .int .i64 nb, .int .i64 nc, .int .i64 p, .int .i64 q, .int .i64 W, .int .u64 lo, .int .u64 hi, .string nm], ua, ub, uc] w (WG w F gs g mo R) := by
 have HAR : Hid _ := har
 have HOF : Hid _ := hof
 have HC : Hid _ := hc
 clear har hof hc
 go_enter Tryz.func49, Tryz.ntmps49
 go_wp2_with fail
 refine (HAR.out _).mono ?_
 rintro ev wz ⟨rfl, hz⟩
 rw [hz]
 clear hz wz
 go_wp2_with fail
 refine (HOF.out _).mono ?_
 rintro ev wz ⟨rfl, hz⟩
 rw [hz]
 clear hz wz
 go_wp2_with fail
 refine (HC.out _ (by go_grown)).mono ?_
 rintro ev w5 ⟨u5, rfl, F5, hW5, hG5, hC5⟩
 have HF : Hid (∃ F', Wd w5 (FG F' gs) u5 R.1 ∧ Gn w5 F' gs g mo R.2 ∧ Ch w w5 (FG F gs) (FG F' gs)) := ⟨F5, hW5, hG5, (Ch.of_below (FG F gs) (by go_grown)).trans hC5⟩
 clear hW5 hG5 hC5
 go_wp2_with fail
 go_ret
 exact ⟨_, rfl, HF.out⟩
theorem circ_implied (har : ∀ wx, Calls Tryz.prog 60 #[.int .i64 op] wx fun ev w' => ev = .returned (.int .i64 2) ∧ w' = wx) (hof : ∀ wx, Calls Tryz.prog 62 #[.pointer (some ⟨gs, 0, none⟩), .int .i64 op] wx fun ev w' => ev = .returned (.func (.func 87) #[.pointer (some ⟨gs, 0, none⟩)] #[]) ∧ w' = wx)
  (hc : ∀ wx, Below w.heap.size w wx → Calls Tryz.prog 87 #[.pointer (some ⟨gs, 0, none⟩), ua, ub] wx (WG wx F gs g mo R)) :
  Calls Tryz.prog 49 #[.pointer (some ⟨gs, 0, none⟩), .agg #[.int .i64 op, .int .i64 so, .int .i64 na, .int .i64 nb, .int .i64 nc, .int .i64 p, .int .i64 q, .int .i64 W, .int .u64 lo, .int .u64 hi, .string nm], ua, ub, uc] w (WG w F gs g mo R) := by
 have HAR : Hid _ := har
 have HOF : Hid _ := hof
 have HC : Hid _ := hc
 clear har hof hc
 go_enter Tryz.func49, Tryz.ntmps49
 go_wp2_with fail
 refine (HAR.out _).mono ?_
 rintro ev wz ⟨rfl, hz⟩
 rw [hz]
 clear hz wz
 go_wp2_with fail
 refine (HOF.out _).mono ?_
 rintro ev wz ⟨rfl, hz⟩
 rw [hz]
 clear hz wz
 go_wp2_with fail
 refine (HC.out _ (by go_grown)).mono ?_
 rintro ev w5 ⟨u5, rfl, F5, hW5, hG5, hC5⟩
 have HF : Hid (∃ F', Wd w5 (FG F' gs) u5 R.1 ∧ Gn w5 F' gs g mo R.2 ∧ Ch w w5 (FG F gs) (FG F' gs)) := ⟨F5, hW5, hG5, (Ch.of_below (FG F gs) (by go_grown)).trans hC5⟩
 clear hW5 hG5 hC5
 go_wp2_with fail
 go_ret
 exact ⟨_, rfl, HF.out⟩
theorem circ_notBoth (har : ∀ wx, Calls Tryz.prog 60 #[.int .i64 op] wx fun ev w' => ev = .returned (.int .i64 2) ∧ w' = wx) (hof : ∀ wx, Calls Tryz.prog 62 #[.pointer (some ⟨gs, 0, none⟩), .int .i64 op] wx fun ev w' => ev = .returned (.func (.func 88) #[.pointer (some ⟨gs, 0, none⟩)] #[]) ∧ w' = wx)
  (hc : ∀ wx, Below w.heap.size w wx → Calls Tryz.prog 88 #[.pointer (some ⟨gs, 0, none⟩), ua, ub] wx (WG wx F gs g mo R)) :
  Calls Tryz.prog 49 #[.pointer (some ⟨gs, 0, none⟩), .agg #[.int .i64 op, .int .i64 so, .int .i64 na, .int .i64 nb, .int .i64 nc, .int .i64 p, .int .i64 q, .int .i64 W, .int .u64 lo, .int .u64 hi, .string nm], ua, ub, uc] w (WG w F gs g mo R) := by
 have HAR : Hid _ := har
 have HOF : Hid _ := hof
 have HC : Hid _ := hc
 clear har hof hc
 go_enter Tryz.func49, Tryz.ntmps49
 go_wp2_with fail
 refine (HAR.out _).mono ?_
 rintro ev wz ⟨rfl, hz⟩
 rw [hz]
 clear hz wz
 go_wp2_with fail
 refine (HOF.out _).mono ?_
 rintro ev wz ⟨rfl, hz⟩
 rw [hz]
 clear hz wz
 go_wp2_with fail
 refine (HC.out _ (by go_grown)).mono ?_
 rintro ev w5 ⟨u5, rfl, F5, hW5, hG5, hC5⟩
 have HF : Hid (∃ F', Wd w5 (FG F' gs) u5 R.1 ∧ Gn w5 F' gs g mo R.2 ∧ Ch w w5 (FG F gs) (FG F' gs)) := ⟨F5, hW5, hG5, (Ch.of_below (FG F gs) (by go_grown)).trans hC5⟩
 clear hW5 hG5 hC5
 go_wp2_with fail
 go_ret
 exact ⟨_, rfl, HF.out⟩
theorem circ_neither (har : ∀ wx, Calls Tryz.prog 60 #[.int .i64 op] wx fun ev w' => ev = .returned (.int .i64 2) ∧ w' = wx) (hof : ∀ wx, Calls Tryz.prog 62 #[.pointer (some ⟨gs, 0, none⟩), .int .i64 op] wx fun ev w' => ev = .returned (.func (.func 89) #[.pointer (some ⟨gs, 0, none⟩)] #[]) ∧ w' = wx)
  (hc : ∀ wx, Below w.heap.size w wx → Calls Tryz.prog 89 #[.pointer (some ⟨gs, 0, none⟩), ua, ub] wx (WG wx F gs g mo R)) :
  Calls Tryz.prog 49 #[.pointer (some ⟨gs, 0, none⟩), .agg #[.int .i64 op, .int .i64 so, .int .i64 na, .int .i64 nb, .int .i64 nc, .int .i64 p, .int .i64 q, .int .i64 W, .int .u64 lo, .int .u64 hi, .string nm], ua, ub, uc] w (WG w F gs g mo R) := by
 have HAR : Hid _ := har
 have HOF : Hid _ := hof
 have HC : Hid _ := hc
 clear har hof hc
 go_enter Tryz.func49, Tryz.ntmps49
 go_wp2_with fail
 refine (HAR.out _).mono ?_
 rintro ev wz ⟨rfl, hz⟩
 rw [hz]
 clear hz wz
 go_wp2_with fail
 refine (HOF.out _).mono ?_
 rintro ev wz ⟨rfl, hz⟩
 rw [hz]
 clear hz wz
 go_wp2_with fail
 refine (HC.out _ (by go_grown)).mono ?_
 rintro ev w5 ⟨u5, rfl, F5, hW5, hG5, hC5⟩
 have HF : Hid (∃ F', Wd w5 (FG F' gs) u5 R.1 ∧ Gn w5 F' gs g mo R.2 ∧ Ch w w5 (FG F gs) (FG F' gs)) := ⟨F5, hW5, hG5, (Ch.of_below (FG F gs) (by go_grown)).trans hC5⟩
 clear hW5 hG5 hC5
 go_wp2_with fail
 go_ret
 exact ⟨_, rfl, HF.out⟩
theorem circ_like (har : ∀ wx, Calls Tryz.prog 60 #[.int .i64 op] wx fun ev w' => ev = .returned (.int .i64 2) ∧ w' = wx) (hof : ∀ wx, Calls Tryz.prog 62 #[.pointer (some ⟨gs, 0, none⟩), .int .i64 op] wx fun ev w' => ev = .returned (.func (.func 90) #[.pointer (some ⟨gs, 0, none⟩)] #[]) ∧ w' = wx)
  (hc : ∀ wx, Below w.heap.size w wx → Calls Tryz.prog 90 #[.pointer (some ⟨gs, 0, none⟩), ua, ub] wx (WG wx F gs g mo R)) :
  Calls Tryz.prog 49 #[.pointer (some ⟨gs, 0, none⟩), .agg #[.int .i64 op, .int .i64 so, .int .i64 na, .int .i64 nb, .int .i64 nc, .int .i64 p, .int .i64 q, .int .i64 W, .int .u64 lo, .int .u64 hi, .string nm], ua, ub, uc] w (WG w F gs g mo R) := by
 have HAR : Hid _ := har
 have HOF : Hid _ := hof
 have HC : Hid _ := hc
 clear har hof hc
 go_enter Tryz.func49, Tryz.ntmps49
 go_wp2_with fail
 refine (HAR.out _).mono ?_
 rintro ev wz ⟨rfl, hz⟩
 rw [hz]
 clear hz wz
 go_wp2_with fail
 refine (HOF.out _).mono ?_
 rintro ev wz ⟨rfl, hz⟩
 rw [hz]
 clear hz wz
 go_wp2_with fail
 refine (HC.out _ (by go_grown)).mono ?_
 rintro ev w5 ⟨u5, rfl, F5, hW5, hG5, hC5⟩
 have HF : Hid (∃ F', Wd w5 (FG F' gs) u5 R.1 ∧ Gn w5 F' gs g mo R.2 ∧ Ch w w5 (FG F gs) (FG F' gs)) := ⟨F5, hW5, hG5, (Ch.of_below (FG F gs) (by go_grown)).trans hC5⟩
 clear hW5 hG5 hC5
 go_wp2_with fail
 go_ret
 exact ⟨_, rfl, HF.out⟩
theorem circ_joined (har : ∀ wx, Calls Tryz.prog 60 #[.int .i64 op] wx fun ev w' => ev = .returned (.int .i64 2) ∧ w' = wx) (hof : ∀ wx, Calls Tryz.prog 62 #[.pointer (some ⟨gs, 0, none⟩), .int .i64 op] wx fun ev w' => ev = .returned (.func (.func 91) #[.pointer (some ⟨gs, 0, none⟩)] #[]) ∧ w' = wx)
  (hc : ∀ wx, Below w.heap.size w wx → Calls Tryz.prog 91 #[.pointer (some ⟨gs, 0, none⟩), ua, ub] wx (WG wx F gs g mo R)) :
  Calls Tryz.prog 49 #[.pointer (some ⟨gs, 0, none⟩), .agg #[.int .i64 op, .int .i64 so, .int .i64 na, .int .i64 nb, .int .i64 nc, .int .i64 p, .int .i64 q, .int .i64 W, .int .u64 lo, .int .u64 hi, .string nm], ua, ub, uc] w (WG w F gs g mo R) := by
 have HAR : Hid _ := har
 have HOF : Hid _ := hof
 have HC : Hid _ := hc
 clear har hof hc
 go_enter Tryz.func49, Tryz.ntmps49
 go_wp2_with fail
 refine (HAR.out _).mono ?_
 rintro ev wz ⟨rfl, hz⟩
 rw [hz]
 clear hz wz
 go_wp2_with fail
 refine (HOF.out _).mono ?_
 rintro ev wz ⟨rfl, hz⟩
 rw [hz]
 clear hz wz
 go_wp2_with fail
 refine (HC.out _ (by go_grown)).mono ?_
 rintro ev w5 ⟨u5, rfl, F5, hW5, hG5, hC5⟩
 have HF : Hid (∃ F', Wd w5 (FG F' gs) u5 R.1 ∧ Gn w5 F' gs g mo R.2 ∧ Ch w w5 (FG F gs) (FG F' gs)) := ⟨F5, hW5, hG5, (Ch.of_below (FG F gs) (by go_grown)).trans hC5⟩
 clear hW5 hG5 hC5
 go_wp2_with fail
 go_ret
 exact ⟨_, rfl, HF.out⟩
theorem circ_same (har : ∀ wx, Calls Tryz.prog 60 #[.int .i64 op] wx fun ev w' => ev = .returned (.int .i64 2) ∧ w' = wx) (hof : ∀ wx, Calls Tryz.prog 62 #[.pointer (some ⟨gs, 0, none⟩), .int .i64 op] wx fun ev w' => ev = .returned (.func (.func 92) #[.pointer (some ⟨gs, 0, none⟩)] #[]) ∧ w' = wx)
  (hc : ∀ wx, Below w.heap.size w wx → Calls Tryz.prog 92 #[.pointer (some ⟨gs, 0, none⟩), ua, ub] wx (WG wx F gs g mo R)) :
  Calls Tryz.prog 49 #[.pointer (some ⟨gs, 0, none⟩), .agg #[.int .i64 op, .int .i64 so, .int .i64 na, .int .i64 nb, .int .i64 nc, .int .i64 p, .int .i64 q, .int .i64 W, .int .u64 lo, .int .u64 hi, .string nm], ua, ub, uc] w (WG w F gs g mo R) := by
 have HAR : Hid _ := har
 have HOF : Hid _ := hof
 have HC : Hid _ := hc
 clear har hof hc
 go_enter Tryz.func49, Tryz.ntmps49
 go_wp2_with fail
 refine (HAR.out _).mono ?_
 rintro ev wz ⟨rfl, hz⟩
 rw [hz]
 clear hz wz
 go_wp2_with fail
 refine (HOF.out _).mono ?_
 rintro ev wz ⟨rfl, hz⟩
 rw [hz]
 clear hz wz
 go_wp2_with fail
 refine (HC.out _ (by go_grown)).mono ?_
 rintro ev w5 ⟨u5, rfl, F5, hW5, hG5, hC5⟩
 have HF : Hid (∃ F', Wd w5 (FG F' gs) u5 R.1 ∧ Gn w5 F' gs g mo R.2 ∧ Ch w w5 (FG F gs) (FG F' gs)) := ⟨F5, hW5, hG5, (Ch.of_below (FG F gs) (by go_grown)).trans hC5⟩
 clear hW5 hG5 hC5
 go_wp2_with fail
 go_ret
 exact ⟨_, rfl, HF.out⟩
end
end Go.Proofs.YtcahhahbcijkiaaGreat.Ag
