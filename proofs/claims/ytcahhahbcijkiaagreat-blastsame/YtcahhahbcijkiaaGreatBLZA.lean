import Derived.Test.YtcahhahbcijkiaaGreatMg37
namespace Go.Proofs.YtcahhahbcijkiaaGreat.Ag
set_option maxHeartbeats 12800000
set_option maxRecDepth 100000
open Go.RowKit
set_option linter.unusedSimpArgs false
set_option linter.unusedVariables false
section
variable {w : World} {v : Value}
theorem ofOne_3 (w : World) (b : Nat) : Calls Tryz.prog 61 #[.pointer (some ⟨b, 0, none⟩), .int .i64 3] w fun ev w' => ev = .returned (.func (.func 81) #[.pointer (some ⟨b, 0, none⟩)] #[]) ∧ w' = w := by
 go_enter Tryz.func61, Tryz.ntmps61
 go_wp2_with fail
 go_ret
 exact ⟨rfl, rfl⟩
theorem ofOne_10 (w : World) (b : Nat) : Calls Tryz.prog 61 #[.pointer (some ⟨b, 0, none⟩), .int .i64 10] w fun ev w' => ev = .returned (.func (.func 81) #[.pointer (some ⟨b, 0, none⟩)] #[]) ∧ w' = w := by
 go_enter Tryz.func61, Tryz.ntmps61
 go_wp2_with fail
 go_ret
 exact ⟨rfl, rfl⟩
theorem ofOne_11 (w : World) (b : Nat) : Calls Tryz.prog 61 #[.pointer (some ⟨b, 0, none⟩), .int .i64 11] w fun ev w' => ev = .returned (.func (.func 74) #[.pointer (some ⟨b, 0, none⟩)] #[]) ∧ w' = w := by
 go_enter Tryz.func61, Tryz.ntmps61
 go_wp2_with fail
 go_ret
 exact ⟨rfl, rfl⟩
theorem ofOne_39 (w : World) (b : Nat) : Calls Tryz.prog 61 #[.pointer (some ⟨b, 0, none⟩), .int .i64 39] w fun ev w' => ev = .returned (.func (.func 75) #[.pointer (some ⟨b, 0, none⟩)] #[]) ∧ w' = w := by
 go_enter Tryz.func61, Tryz.ntmps61
 go_wp2_with fail
 go_ret
 exact ⟨rfl, rfl⟩
theorem ofOne_40 (w : World) (b : Nat) : Calls Tryz.prog 61 #[.pointer (some ⟨b, 0, none⟩), .int .i64 40] w fun ev w' => ev = .returned (.func (.func 76) #[.pointer (some ⟨b, 0, none⟩)] #[]) ∧ w' = w := by
 go_enter Tryz.func61, Tryz.ntmps61
 go_wp2_with fail
 go_ret
 exact ⟨rfl, rfl⟩
theorem ofOne_41 (w : World) (b : Nat) : Calls Tryz.prog 61 #[.pointer (some ⟨b, 0, none⟩), .int .i64 41] w fun ev w' => ev = .returned (.func (.func 77) #[.pointer (some ⟨b, 0, none⟩)] #[]) ∧ w' = w := by
 go_enter Tryz.func61, Tryz.ntmps61
 go_wp2_with fail
 go_ret
 exact ⟨rfl, rfl⟩
theorem ofOne_42 (w : World) (b : Nat) : Calls Tryz.prog 61 #[.pointer (some ⟨b, 0, none⟩), .int .i64 42] w fun ev w' => ev = .returned (.func (.func 78) #[.pointer (some ⟨b, 0, none⟩)] #[]) ∧ w' = w := by
 go_enter Tryz.func61, Tryz.ntmps61
 go_wp2_with fail
 go_ret
 exact ⟨rfl, rfl⟩
theorem ofOne_43 (w : World) (b : Nat) : Calls Tryz.prog 61 #[.pointer (some ⟨b, 0, none⟩), .int .i64 43] w fun ev w' => ev = .returned (.func (.func 79) #[.pointer (some ⟨b, 0, none⟩)] #[]) ∧ w' = w := by
 go_enter Tryz.func61, Tryz.ntmps61
 go_wp2_with fail
 go_ret
 exact ⟨rfl, rfl⟩
theorem ofOne_44 (w : World) (b : Nat) : Calls Tryz.prog 61 #[.pointer (some ⟨b, 0, none⟩), .int .i64 44] w fun ev w' => ev = .returned (.func (.func 80) #[.pointer (some ⟨b, 0, none⟩)] #[]) ∧ w' = w := by
 go_enter Tryz.func61, Tryz.ntmps61
 go_wp2_with fail
 go_ret
 exact ⟨rfl, rfl⟩
theorem arithmetic_18 (w : World) (b : Nat) : Calls Tryz.prog 82 #[.pointer (some ⟨b, 0, none⟩), .int .i64 18] w fun ev w' => ev = .returned (.func (.func 108) #[.pointer (some ⟨b, 0, none⟩)] #[]) ∧ w' = w := by
 go_enter Tryz.func82, Tryz.ntmps82
 go_wp2_with fail
 go_ret
 exact ⟨rfl, rfl⟩
theorem ofTwo_18 (w : World) (b : Nat) : Calls Tryz.prog 62 #[.pointer (some ⟨b, 0, none⟩), .int .i64 18] w fun ev w' => ev = .returned (.func (.func 108) #[.pointer (some ⟨b, 0, none⟩)] #[]) ∧ w' = w := by
 have HC : Hid _ := arithmetic_18 w b
 go_enter Tryz.func62, Tryz.ntmps62
 go_wp2_with fail
 refine Calls.mono HC.out ?_
 rintro ev wz ⟨rfl, hz⟩
 rw [hz]
 clear hz wz
 go_wp2_with fail
 go_ret
 exact ⟨rfl, rfl⟩
theorem arithmetic_19 (w : World) (b : Nat) : Calls Tryz.prog 82 #[.pointer (some ⟨b, 0, none⟩), .int .i64 19] w fun ev w' => ev = .returned (.func (.func 109) #[.pointer (some ⟨b, 0, none⟩)] #[]) ∧ w' = w := by
 go_enter Tryz.func82, Tryz.ntmps82
 go_wp2_with fail
 go_ret
 exact ⟨rfl, rfl⟩
theorem ofTwo_19 (w : World) (b : Nat) : Calls Tryz.prog 62 #[.pointer (some ⟨b, 0, none⟩), .int .i64 19] w fun ev w' => ev = .returned (.func (.func 109) #[.pointer (some ⟨b, 0, none⟩)] #[]) ∧ w' = w := by
 have HC : Hid _ := arithmetic_19 w b
 go_enter Tryz.func62, Tryz.ntmps62
 go_wp2_with fail
 refine Calls.mono HC.out ?_
 rintro ev wz ⟨rfl, hz⟩
 rw [hz]
 clear hz wz
 go_wp2_with fail
 go_ret
 exact ⟨rfl, rfl⟩
theorem arithmetic_20 (w : World) (b : Nat) : Calls Tryz.prog 82 #[.pointer (some ⟨b, 0, none⟩), .int .i64 20] w fun ev w' => ev = .returned (.func (.func 110) #[.pointer (some ⟨b, 0, none⟩)] #[]) ∧ w' = w := by
 go_enter Tryz.func82, Tryz.ntmps82
 go_wp2_with fail
 go_ret
 exact ⟨rfl, rfl⟩
theorem ofTwo_20 (w : World) (b : Nat) : Calls Tryz.prog 62 #[.pointer (some ⟨b, 0, none⟩), .int .i64 20] w fun ev w' => ev = .returned (.func (.func 110) #[.pointer (some ⟨b, 0, none⟩)] #[]) ∧ w' = w := by
 have HC : Hid _ := arithmetic_20 w b
 go_enter Tryz.func62, Tryz.ntmps62
 go_wp2_with fail
 refine Calls.mono HC.out ?_
 rintro ev wz ⟨rfl, hz⟩
 rw [hz]
 clear hz wz
 go_wp2_with fail
 go_ret
 exact ⟨rfl, rfl⟩
theorem arithmetic_21 (w : World) (b : Nat) : Calls Tryz.prog 82 #[.pointer (some ⟨b, 0, none⟩), .int .i64 21] w fun ev w' => ev = .returned (.func (.func 111) #[.pointer (some ⟨b, 0, none⟩)] #[]) ∧ w' = w := by
 go_enter Tryz.func82, Tryz.ntmps82
 go_wp2_with fail
 go_ret
 exact ⟨rfl, rfl⟩
theorem ofTwo_21 (w : World) (b : Nat) : Calls Tryz.prog 62 #[.pointer (some ⟨b, 0, none⟩), .int .i64 21] w fun ev w' => ev = .returned (.func (.func 111) #[.pointer (some ⟨b, 0, none⟩)] #[]) ∧ w' = w := by
 have HC : Hid _ := arithmetic_21 w b
 go_enter Tryz.func62, Tryz.ntmps62
 go_wp2_with fail
 refine Calls.mono HC.out ?_
 rintro ev wz ⟨rfl, hz⟩
 rw [hz]
 clear hz wz
 go_wp2_with fail
 go_ret
 exact ⟨rfl, rfl⟩
theorem arithmetic_22 (w : World) (b : Nat) : Calls Tryz.prog 82 #[.pointer (some ⟨b, 0, none⟩), .int .i64 22] w fun ev w' => ev = .returned (.func (.func 112) #[.pointer (some ⟨b, 0, none⟩)] #[]) ∧ w' = w := by
 go_enter Tryz.func82, Tryz.ntmps82
 go_wp2_with fail
 go_ret
 exact ⟨rfl, rfl⟩
theorem ofTwo_22 (w : World) (b : Nat) : Calls Tryz.prog 62 #[.pointer (some ⟨b, 0, none⟩), .int .i64 22] w fun ev w' => ev = .returned (.func (.func 112) #[.pointer (some ⟨b, 0, none⟩)] #[]) ∧ w' = w := by
 have HC : Hid _ := arithmetic_22 w b
 go_enter Tryz.func62, Tryz.ntmps62
 go_wp2_with fail
 refine Calls.mono HC.out ?_
 rintro ev wz ⟨rfl, hz⟩
 rw [hz]
 clear hz wz
 go_wp2_with fail
 go_ret
 exact ⟨rfl, rfl⟩
theorem arithmetic_23 (w : World) (b : Nat) : Calls Tryz.prog 82 #[.pointer (some ⟨b, 0, none⟩), .int .i64 23] w fun ev w' => ev = .returned (.func (.func 113) #[.pointer (some ⟨b, 0, none⟩)] #[]) ∧ w' = w := by
 go_enter Tryz.func82, Tryz.ntmps82
 go_wp2_with fail
 go_ret
 exact ⟨rfl, rfl⟩
theorem ofTwo_23 (w : World) (b : Nat) : Calls Tryz.prog 62 #[.pointer (some ⟨b, 0, none⟩), .int .i64 23] w fun ev w' => ev = .returned (.func (.func 113) #[.pointer (some ⟨b, 0, none⟩)] #[]) ∧ w' = w := by
 have HC : Hid _ := arithmetic_23 w b
 go_enter Tryz.func62, Tryz.ntmps62
 go_wp2_with fail
 refine Calls.mono HC.out ?_
 rintro ev wz ⟨rfl, hz⟩
 rw [hz]
 clear hz wz
 go_wp2_with fail
 go_ret
 exact ⟨rfl, rfl⟩
theorem arithmetic_24 (w : World) (b : Nat) : Calls Tryz.prog 82 #[.pointer (some ⟨b, 0, none⟩), .int .i64 24] w fun ev w' => ev = .returned (.func (.func 114) #[.pointer (some ⟨b, 0, none⟩)] #[]) ∧ w' = w := by
 go_enter Tryz.func82, Tryz.ntmps82
 go_wp2_with fail
 go_ret
 exact ⟨rfl, rfl⟩
theorem ofTwo_24 (w : World) (b : Nat) : Calls Tryz.prog 62 #[.pointer (some ⟨b, 0, none⟩), .int .i64 24] w fun ev w' => ev = .returned (.func (.func 114) #[.pointer (some ⟨b, 0, none⟩)] #[]) ∧ w' = w := by
 have HC : Hid _ := arithmetic_24 w b
 go_enter Tryz.func62, Tryz.ntmps62
 go_wp2_with fail
 refine Calls.mono HC.out ?_
 rintro ev wz ⟨rfl, hz⟩
 rw [hz]
 clear hz wz
 go_wp2_with fail
 go_ret
 exact ⟨rfl, rfl⟩
theorem arithmetic_25 (w : World) (b : Nat) : Calls Tryz.prog 82 #[.pointer (some ⟨b, 0, none⟩), .int .i64 25] w fun ev w' => ev = .returned (.func (.func 115) #[.pointer (some ⟨b, 0, none⟩)] #[]) ∧ w' = w := by
 go_enter Tryz.func82, Tryz.ntmps82
 go_wp2_with fail
 go_ret
 exact ⟨rfl, rfl⟩
theorem ofTwo_25 (w : World) (b : Nat) : Calls Tryz.prog 62 #[.pointer (some ⟨b, 0, none⟩), .int .i64 25] w fun ev w' => ev = .returned (.func (.func 115) #[.pointer (some ⟨b, 0, none⟩)] #[]) ∧ w' = w := by
 have HC : Hid _ := arithmetic_25 w b
 go_enter Tryz.func62, Tryz.ntmps62
 go_wp2_with fail
 refine Calls.mono HC.out ?_
 rintro ev wz ⟨rfl, hz⟩
 rw [hz]
 clear hz wz
 go_wp2_with fail
 go_ret
 exact ⟨rfl, rfl⟩
theorem arithmetic_26 (w : World) (b : Nat) : Calls Tryz.prog 82 #[.pointer (some ⟨b, 0, none⟩), .int .i64 26] w fun ev w' => ev = .returned (.func (.func 116) #[.pointer (some ⟨b, 0, none⟩)] #[]) ∧ w' = w := by
 go_enter Tryz.func82, Tryz.ntmps82
 go_wp2_with fail
 go_ret
 exact ⟨rfl, rfl⟩
theorem ofTwo_26 (w : World) (b : Nat) : Calls Tryz.prog 62 #[.pointer (some ⟨b, 0, none⟩), .int .i64 26] w fun ev w' => ev = .returned (.func (.func 116) #[.pointer (some ⟨b, 0, none⟩)] #[]) ∧ w' = w := by
 have HC : Hid _ := arithmetic_26 w b
 go_enter Tryz.func62, Tryz.ntmps62
 go_wp2_with fail
 refine Calls.mono HC.out ?_
 rintro ev wz ⟨rfl, hz⟩
 rw [hz]
 clear hz wz
 go_wp2_with fail
 go_ret
 exact ⟨rfl, rfl⟩
theorem arithmetic_27 (w : World) (b : Nat) : Calls Tryz.prog 82 #[.pointer (some ⟨b, 0, none⟩), .int .i64 27] w fun ev w' => ev = .returned (.func (.func 117) #[.pointer (some ⟨b, 0, none⟩)] #[]) ∧ w' = w := by
 go_enter Tryz.func82, Tryz.ntmps82
 go_wp2_with fail
 go_ret
 exact ⟨rfl, rfl⟩
theorem ofTwo_27 (w : World) (b : Nat) : Calls Tryz.prog 62 #[.pointer (some ⟨b, 0, none⟩), .int .i64 27] w fun ev w' => ev = .returned (.func (.func 117) #[.pointer (some ⟨b, 0, none⟩)] #[]) ∧ w' = w := by
 have HC : Hid _ := arithmetic_27 w b
 go_enter Tryz.func62, Tryz.ntmps62
 go_wp2_with fail
 refine Calls.mono HC.out ?_
 rintro ev wz ⟨rfl, hz⟩
 rw [hz]
 clear hz wz
 go_wp2_with fail
 go_ret
 exact ⟨rfl, rfl⟩
theorem arithmetic_28 (w : World) (b : Nat) : Calls Tryz.prog 82 #[.pointer (some ⟨b, 0, none⟩), .int .i64 28] w fun ev w' => ev = .returned (.func (.func 118) #[.pointer (some ⟨b, 0, none⟩)] #[]) ∧ w' = w := by
 go_enter Tryz.func82, Tryz.ntmps82
 go_wp2_with fail
 go_ret
 exact ⟨rfl, rfl⟩
theorem ofTwo_28 (w : World) (b : Nat) : Calls Tryz.prog 62 #[.pointer (some ⟨b, 0, none⟩), .int .i64 28] w fun ev w' => ev = .returned (.func (.func 118) #[.pointer (some ⟨b, 0, none⟩)] #[]) ∧ w' = w := by
 have HC : Hid _ := arithmetic_28 w b
 go_enter Tryz.func62, Tryz.ntmps62
 go_wp2_with fail
 refine Calls.mono HC.out ?_
 rintro ev wz ⟨rfl, hz⟩
 rw [hz]
 clear hz wz
 go_wp2_with fail
 go_ret
 exact ⟨rfl, rfl⟩
theorem comparison_29 (w : World) (b : Nat) : Calls Tryz.prog 83 #[.pointer (some ⟨b, 0, none⟩), .int .i64 29] w fun ev w' => ev = .returned (.func (.func 119) #[.pointer (some ⟨b, 0, none⟩)] #[]) ∧ w' = w := by
 go_enter Tryz.func83, Tryz.ntmps83
 go_wp2_with fail
 go_ret
 exact ⟨rfl, rfl⟩
theorem ofTwo_29 (w : World) (b : Nat) : Calls Tryz.prog 62 #[.pointer (some ⟨b, 0, none⟩), .int .i64 29] w fun ev w' => ev = .returned (.func (.func 119) #[.pointer (some ⟨b, 0, none⟩)] #[]) ∧ w' = w := by
 have HC : Hid _ := comparison_29 w b
 go_enter Tryz.func62, Tryz.ntmps62
 go_wp2_with fail
 refine Calls.mono HC.out ?_
 rintro ev wz ⟨rfl, hz⟩
 rw [hz]
 clear hz wz
 go_wp2_with fail
 go_ret
 exact ⟨rfl, rfl⟩
theorem comparison_30 (w : World) (b : Nat) : Calls Tryz.prog 83 #[.pointer (some ⟨b, 0, none⟩), .int .i64 30] w fun ev w' => ev = .returned (.func (.func 120) #[.pointer (some ⟨b, 0, none⟩)] #[]) ∧ w' = w := by
 go_enter Tryz.func83, Tryz.ntmps83
 go_wp2_with fail
 go_ret
 exact ⟨rfl, rfl⟩
theorem ofTwo_30 (w : World) (b : Nat) : Calls Tryz.prog 62 #[.pointer (some ⟨b, 0, none⟩), .int .i64 30] w fun ev w' => ev = .returned (.func (.func 120) #[.pointer (some ⟨b, 0, none⟩)] #[]) ∧ w' = w := by
 have HC : Hid _ := comparison_30 w b
 go_enter Tryz.func62, Tryz.ntmps62
 go_wp2_with fail
 refine Calls.mono HC.out ?_
 rintro ev wz ⟨rfl, hz⟩
 rw [hz]
 clear hz wz
 go_wp2_with fail
 go_ret
 exact ⟨rfl, rfl⟩
theorem comparison_31 (w : World) (b : Nat) : Calls Tryz.prog 83 #[.pointer (some ⟨b, 0, none⟩), .int .i64 31] w fun ev w' => ev = .returned (.func (.func 121) #[.pointer (some ⟨b, 0, none⟩)] #[]) ∧ w' = w := by
 go_enter Tryz.func83, Tryz.ntmps83
 go_wp2_with fail
 go_ret
 exact ⟨rfl, rfl⟩
theorem ofTwo_31 (w : World) (b : Nat) : Calls Tryz.prog 62 #[.pointer (some ⟨b, 0, none⟩), .int .i64 31] w fun ev w' => ev = .returned (.func (.func 121) #[.pointer (some ⟨b, 0, none⟩)] #[]) ∧ w' = w := by
 have HC : Hid _ := comparison_31 w b
 go_enter Tryz.func62, Tryz.ntmps62
 go_wp2_with fail
 refine Calls.mono HC.out ?_
 rintro ev wz ⟨rfl, hz⟩
 rw [hz]
 clear hz wz
 go_wp2_with fail
 go_ret
 exact ⟨rfl, rfl⟩
theorem comparison_32 (w : World) (b : Nat) : Calls Tryz.prog 83 #[.pointer (some ⟨b, 0, none⟩), .int .i64 32] w fun ev w' => ev = .returned (.func (.func 122) #[.pointer (some ⟨b, 0, none⟩)] #[]) ∧ w' = w := by
 go_enter Tryz.func83, Tryz.ntmps83
 go_wp2_with fail
 go_ret
 exact ⟨rfl, rfl⟩
theorem ofTwo_32 (w : World) (b : Nat) : Calls Tryz.prog 62 #[.pointer (some ⟨b, 0, none⟩), .int .i64 32] w fun ev w' => ev = .returned (.func (.func 122) #[.pointer (some ⟨b, 0, none⟩)] #[]) ∧ w' = w := by
 have HC : Hid _ := comparison_32 w b
 go_enter Tryz.func62, Tryz.ntmps62
 go_wp2_with fail
 refine Calls.mono HC.out ?_
 rintro ev wz ⟨rfl, hz⟩
 rw [hz]
 clear hz wz
 go_wp2_with fail
 go_ret
 exact ⟨rfl, rfl⟩
theorem comparison_33 (w : World) (b : Nat) : Calls Tryz.prog 83 #[.pointer (some ⟨b, 0, none⟩), .int .i64 33] w fun ev w' => ev = .returned (.func (.func 123) #[.pointer (some ⟨b, 0, none⟩)] #[]) ∧ w' = w := by
 go_enter Tryz.func83, Tryz.ntmps83
 go_wp2_with fail
 go_ret
 exact ⟨rfl, rfl⟩
theorem ofTwo_33 (w : World) (b : Nat) : Calls Tryz.prog 62 #[.pointer (some ⟨b, 0, none⟩), .int .i64 33] w fun ev w' => ev = .returned (.func (.func 123) #[.pointer (some ⟨b, 0, none⟩)] #[]) ∧ w' = w := by
 have HC : Hid _ := comparison_33 w b
 go_enter Tryz.func62, Tryz.ntmps62
 go_wp2_with fail
 refine Calls.mono HC.out ?_
 rintro ev wz ⟨rfl, hz⟩
 rw [hz]
 clear hz wz
 go_wp2_with fail
 go_ret
 exact ⟨rfl, rfl⟩
theorem comparison_34 (w : World) (b : Nat) : Calls Tryz.prog 83 #[.pointer (some ⟨b, 0, none⟩), .int .i64 34] w fun ev w' => ev = .returned (.func (.func 124) #[.pointer (some ⟨b, 0, none⟩)] #[]) ∧ w' = w := by
 go_enter Tryz.func83, Tryz.ntmps83
 go_wp2_with fail
 go_ret
 exact ⟨rfl, rfl⟩
theorem ofTwo_34 (w : World) (b : Nat) : Calls Tryz.prog 62 #[.pointer (some ⟨b, 0, none⟩), .int .i64 34] w fun ev w' => ev = .returned (.func (.func 124) #[.pointer (some ⟨b, 0, none⟩)] #[]) ∧ w' = w := by
 have HC : Hid _ := comparison_34 w b
 go_enter Tryz.func62, Tryz.ntmps62
 go_wp2_with fail
 refine Calls.mono HC.out ?_
 rintro ev wz ⟨rfl, hz⟩
 rw [hz]
 clear hz wz
 go_wp2_with fail
 go_ret
 exact ⟨rfl, rfl⟩
theorem comparison_35 (w : World) (b : Nat) : Calls Tryz.prog 83 #[.pointer (some ⟨b, 0, none⟩), .int .i64 35] w fun ev w' => ev = .returned (.func (.func 125) #[.pointer (some ⟨b, 0, none⟩)] #[]) ∧ w' = w := by
 go_enter Tryz.func83, Tryz.ntmps83
 go_wp2_with fail
 go_ret
 exact ⟨rfl, rfl⟩
theorem ofTwo_35 (w : World) (b : Nat) : Calls Tryz.prog 62 #[.pointer (some ⟨b, 0, none⟩), .int .i64 35] w fun ev w' => ev = .returned (.func (.func 125) #[.pointer (some ⟨b, 0, none⟩)] #[]) ∧ w' = w := by
 have HC : Hid _ := comparison_35 w b
 go_enter Tryz.func62, Tryz.ntmps62
 go_wp2_with fail
 refine Calls.mono HC.out ?_
 rintro ev wz ⟨rfl, hz⟩
 rw [hz]
 clear hz wz
 go_wp2_with fail
 go_ret
 exact ⟨rfl, rfl⟩
theorem comparison_36 (w : World) (b : Nat) : Calls Tryz.prog 83 #[.pointer (some ⟨b, 0, none⟩), .int .i64 36] w fun ev w' => ev = .returned (.func (.func 126) #[.pointer (some ⟨b, 0, none⟩)] #[]) ∧ w' = w := by
 go_enter Tryz.func83, Tryz.ntmps83
 go_wp2_with fail
 go_ret
 exact ⟨rfl, rfl⟩
theorem ofTwo_36 (w : World) (b : Nat) : Calls Tryz.prog 62 #[.pointer (some ⟨b, 0, none⟩), .int .i64 36] w fun ev w' => ev = .returned (.func (.func 126) #[.pointer (some ⟨b, 0, none⟩)] #[]) ∧ w' = w := by
 have HC : Hid _ := comparison_36 w b
 go_enter Tryz.func62, Tryz.ntmps62
 go_wp2_with fail
 refine Calls.mono HC.out ?_
 rintro ev wz ⟨rfl, hz⟩
 rw [hz]
 clear hz wz
 go_wp2_with fail
 go_ret
 exact ⟨rfl, rfl⟩
theorem ofTwo_4 (w : World) (b : Nat) : Calls Tryz.prog 62 #[.pointer (some ⟨b, 0, none⟩), .int .i64 4] w fun ev w' => ev = .returned (.func (.func 84) #[.pointer (some ⟨b, 0, none⟩)] #[]) ∧ w' = w := by
 go_enter Tryz.func62, Tryz.ntmps62
 go_wp2_with fail
 go_ret
 exact ⟨rfl, rfl⟩
theorem ofTwo_12 (w : World) (b : Nat) : Calls Tryz.prog 62 #[.pointer (some ⟨b, 0, none⟩), .int .i64 12] w fun ev w' => ev = .returned (.func (.func 84) #[.pointer (some ⟨b, 0, none⟩)] #[]) ∧ w' = w := by
 go_enter Tryz.func62, Tryz.ntmps62
 go_wp2_with fail
 go_ret
 exact ⟨rfl, rfl⟩
theorem ofTwo_5 (w : World) (b : Nat) : Calls Tryz.prog 62 #[.pointer (some ⟨b, 0, none⟩), .int .i64 5] w fun ev w' => ev = .returned (.func (.func 85) #[.pointer (some ⟨b, 0, none⟩)] #[]) ∧ w' = w := by
 go_enter Tryz.func62, Tryz.ntmps62
 go_wp2_with fail
 go_ret
 exact ⟨rfl, rfl⟩
theorem ofTwo_13 (w : World) (b : Nat) : Calls Tryz.prog 62 #[.pointer (some ⟨b, 0, none⟩), .int .i64 13] w fun ev w' => ev = .returned (.func (.func 85) #[.pointer (some ⟨b, 0, none⟩)] #[]) ∧ w' = w := by
 go_enter Tryz.func62, Tryz.ntmps62
 go_wp2_with fail
 go_ret
 exact ⟨rfl, rfl⟩
theorem ofTwo_6 (w : World) (b : Nat) : Calls Tryz.prog 62 #[.pointer (some ⟨b, 0, none⟩), .int .i64 6] w fun ev w' => ev = .returned (.func (.func 86) #[.pointer (some ⟨b, 0, none⟩)] #[]) ∧ w' = w := by
 go_enter Tryz.func62, Tryz.ntmps62
 go_wp2_with fail
 go_ret
 exact ⟨rfl, rfl⟩
theorem ofTwo_14 (w : World) (b : Nat) : Calls Tryz.prog 62 #[.pointer (some ⟨b, 0, none⟩), .int .i64 14] w fun ev w' => ev = .returned (.func (.func 86) #[.pointer (some ⟨b, 0, none⟩)] #[]) ∧ w' = w := by
 go_enter Tryz.func62, Tryz.ntmps62
 go_wp2_with fail
 go_ret
 exact ⟨rfl, rfl⟩
theorem ofTwo_7 (w : World) (b : Nat) : Calls Tryz.prog 62 #[.pointer (some ⟨b, 0, none⟩), .int .i64 7] w fun ev w' => ev = .returned (.func (.func 87) #[.pointer (some ⟨b, 0, none⟩)] #[]) ∧ w' = w := by
 go_enter Tryz.func62, Tryz.ntmps62
 go_wp2_with fail
 go_ret
 exact ⟨rfl, rfl⟩
theorem ofTwo_15 (w : World) (b : Nat) : Calls Tryz.prog 62 #[.pointer (some ⟨b, 0, none⟩), .int .i64 15] w fun ev w' => ev = .returned (.func (.func 88) #[.pointer (some ⟨b, 0, none⟩)] #[]) ∧ w' = w := by
 go_enter Tryz.func62, Tryz.ntmps62
 go_wp2_with fail
 go_ret
 exact ⟨rfl, rfl⟩
theorem ofTwo_16 (w : World) (b : Nat) : Calls Tryz.prog 62 #[.pointer (some ⟨b, 0, none⟩), .int .i64 16] w fun ev w' => ev = .returned (.func (.func 89) #[.pointer (some ⟨b, 0, none⟩)] #[]) ∧ w' = w := by
 go_enter Tryz.func62, Tryz.ntmps62
 go_wp2_with fail
 go_ret
 exact ⟨rfl, rfl⟩
theorem ofTwo_17 (w : World) (b : Nat) : Calls Tryz.prog 62 #[.pointer (some ⟨b, 0, none⟩), .int .i64 17] w fun ev w' => ev = .returned (.func (.func 90) #[.pointer (some ⟨b, 0, none⟩)] #[]) ∧ w' = w := by
 go_enter Tryz.func62, Tryz.ntmps62
 go_wp2_with fail
 go_ret
 exact ⟨rfl, rfl⟩
theorem ofTwo_38 (w : World) (b : Nat) : Calls Tryz.prog 62 #[.pointer (some ⟨b, 0, none⟩), .int .i64 38] w fun ev w' => ev = .returned (.func (.func 91) #[.pointer (some ⟨b, 0, none⟩)] #[]) ∧ w' = w := by
 go_enter Tryz.func62, Tryz.ntmps62
 go_wp2_with fail
 go_ret
 exact ⟨rfl, rfl⟩
theorem ofTwo_8 (w : World) (b : Nat) : Calls Tryz.prog 62 #[.pointer (some ⟨b, 0, none⟩), .int .i64 8] w fun ev w' => ev = .returned (.func (.func 92) #[.pointer (some ⟨b, 0, none⟩)] #[]) ∧ w' = w := by
 go_enter Tryz.func62, Tryz.ntmps62
 go_wp2_with fail
 go_ret
 exact ⟨rfl, rfl⟩
theorem ofTwo_37 (w : World) (b : Nat) : Calls Tryz.prog 62 #[.pointer (some ⟨b, 0, none⟩), .int .i64 37] w fun ev w' => ev = .returned (.func (.func 92) #[.pointer (some ⟨b, 0, none⟩)] #[]) ∧ w' = w := by
 go_enter Tryz.func62, Tryz.ntmps62
 go_wp2_with fail
 go_ret
 exact ⟨rfl, rfl⟩
theorem arity_1 (w : World) : Calls Tryz.prog 60 #[.int .i64 1] w fun ev w' => ev = .returned (.int .i64 0) ∧ w' = w := by
 go_enter Tryz.func60, Tryz.ntmps60
 go_wp2_with fail
 go_ret
 exact ⟨rfl, rfl⟩
theorem arity_3 (w : World) : Calls Tryz.prog 60 #[.int .i64 3] w fun ev w' => ev = .returned (.int .i64 1) ∧ w' = w := by
 go_enter Tryz.func60, Tryz.ntmps60
 go_wp2_with fail
 go_ret
 exact ⟨rfl, rfl⟩
theorem arity_4 (w : World) : Calls Tryz.prog 60 #[.int .i64 4] w fun ev w' => ev = .returned (.int .i64 2) ∧ w' = w := by
 go_enter Tryz.func60, Tryz.ntmps60
 go_wp2_with fail
 go_ret
 exact ⟨rfl, rfl⟩
theorem arity_5 (w : World) : Calls Tryz.prog 60 #[.int .i64 5] w fun ev w' => ev = .returned (.int .i64 2) ∧ w' = w := by
 go_enter Tryz.func60, Tryz.ntmps60
 go_wp2_with fail
 go_ret
 exact ⟨rfl, rfl⟩
theorem arity_6 (w : World) : Calls Tryz.prog 60 #[.int .i64 6] w fun ev w' => ev = .returned (.int .i64 2) ∧ w' = w := by
 go_enter Tryz.func60, Tryz.ntmps60
 go_wp2_with fail
 go_ret
 exact ⟨rfl, rfl⟩
theorem arity_7 (w : World) : Calls Tryz.prog 60 #[.int .i64 7] w fun ev w' => ev = .returned (.int .i64 2) ∧ w' = w := by
 go_enter Tryz.func60, Tryz.ntmps60
 go_wp2_with fail
 go_ret
 exact ⟨rfl, rfl⟩
theorem arity_8 (w : World) : Calls Tryz.prog 60 #[.int .i64 8] w fun ev w' => ev = .returned (.int .i64 2) ∧ w' = w := by
 go_enter Tryz.func60, Tryz.ntmps60
 go_wp2_with fail
 go_ret
 exact ⟨rfl, rfl⟩
theorem arity_9 (w : World) : Calls Tryz.prog 60 #[.int .i64 9] w fun ev w' => ev = .returned (.int .i64 3) ∧ w' = w := by
 go_enter Tryz.func60, Tryz.ntmps60
 go_wp2_with fail
 go_ret
 exact ⟨rfl, rfl⟩
theorem arity_10 (w : World) : Calls Tryz.prog 60 #[.int .i64 10] w fun ev w' => ev = .returned (.int .i64 1) ∧ w' = w := by
 go_enter Tryz.func60, Tryz.ntmps60
 go_wp2_with fail
 go_ret
 exact ⟨rfl, rfl⟩
theorem arity_11 (w : World) : Calls Tryz.prog 60 #[.int .i64 11] w fun ev w' => ev = .returned (.int .i64 1) ∧ w' = w := by
 go_enter Tryz.func60, Tryz.ntmps60
 go_wp2_with fail
 go_ret
 exact ⟨rfl, rfl⟩
theorem arity_12 (w : World) : Calls Tryz.prog 60 #[.int .i64 12] w fun ev w' => ev = .returned (.int .i64 2) ∧ w' = w := by
 go_enter Tryz.func60, Tryz.ntmps60
 go_wp2_with fail
 go_ret
 exact ⟨rfl, rfl⟩
theorem arity_13 (w : World) : Calls Tryz.prog 60 #[.int .i64 13] w fun ev w' => ev = .returned (.int .i64 2) ∧ w' = w := by
 go_enter Tryz.func60, Tryz.ntmps60
 go_wp2_with fail
 go_ret
 exact ⟨rfl, rfl⟩
theorem arity_14 (w : World) : Calls Tryz.prog 60 #[.int .i64 14] w fun ev w' => ev = .returned (.int .i64 2) ∧ w' = w := by
 go_enter Tryz.func60, Tryz.ntmps60
 go_wp2_with fail
 go_ret
 exact ⟨rfl, rfl⟩
theorem arity_15 (w : World) : Calls Tryz.prog 60 #[.int .i64 15] w fun ev w' => ev = .returned (.int .i64 2) ∧ w' = w := by
 go_enter Tryz.func60, Tryz.ntmps60
 go_wp2_with fail
 go_ret
 exact ⟨rfl, rfl⟩
theorem arity_16 (w : World) : Calls Tryz.prog 60 #[.int .i64 16] w fun ev w' => ev = .returned (.int .i64 2) ∧ w' = w := by
 go_enter Tryz.func60, Tryz.ntmps60
 go_wp2_with fail
 go_ret
 exact ⟨rfl, rfl⟩
theorem arity_17 (w : World) : Calls Tryz.prog 60 #[.int .i64 17] w fun ev w' => ev = .returned (.int .i64 2) ∧ w' = w := by
 go_enter Tryz.func60, Tryz.ntmps60
 go_wp2_with fail
 go_ret
 exact ⟨rfl, rfl⟩
theorem arity_18 (w : World) : Calls Tryz.prog 60 #[.int .i64 18] w fun ev w' => ev = .returned (.int .i64 2) ∧ w' = w := by
 go_enter Tryz.func60, Tryz.ntmps60
 go_wp2_with fail
 go_ret
 exact ⟨rfl, rfl⟩
theorem arity_19 (w : World) : Calls Tryz.prog 60 #[.int .i64 19] w fun ev w' => ev = .returned (.int .i64 2) ∧ w' = w := by
 go_enter Tryz.func60, Tryz.ntmps60
 go_wp2_with fail
 go_ret
 exact ⟨rfl, rfl⟩
theorem arity_20 (w : World) : Calls Tryz.prog 60 #[.int .i64 20] w fun ev w' => ev = .returned (.int .i64 2) ∧ w' = w := by
 go_enter Tryz.func60, Tryz.ntmps60
 go_wp2_with fail
 go_ret
 exact ⟨rfl, rfl⟩
theorem arity_21 (w : World) : Calls Tryz.prog 60 #[.int .i64 21] w fun ev w' => ev = .returned (.int .i64 2) ∧ w' = w := by
 go_enter Tryz.func60, Tryz.ntmps60
 go_wp2_with fail
 go_ret
 exact ⟨rfl, rfl⟩
theorem arity_22 (w : World) : Calls Tryz.prog 60 #[.int .i64 22] w fun ev w' => ev = .returned (.int .i64 2) ∧ w' = w := by
 go_enter Tryz.func60, Tryz.ntmps60
 go_wp2_with fail
 go_ret
 exact ⟨rfl, rfl⟩
theorem arity_23 (w : World) : Calls Tryz.prog 60 #[.int .i64 23] w fun ev w' => ev = .returned (.int .i64 2) ∧ w' = w := by
 go_enter Tryz.func60, Tryz.ntmps60
 go_wp2_with fail
 go_ret
 exact ⟨rfl, rfl⟩
theorem arity_24 (w : World) : Calls Tryz.prog 60 #[.int .i64 24] w fun ev w' => ev = .returned (.int .i64 2) ∧ w' = w := by
 go_enter Tryz.func60, Tryz.ntmps60
 go_wp2_with fail
 go_ret
 exact ⟨rfl, rfl⟩
theorem arity_25 (w : World) : Calls Tryz.prog 60 #[.int .i64 25] w fun ev w' => ev = .returned (.int .i64 2) ∧ w' = w := by
 go_enter Tryz.func60, Tryz.ntmps60
 go_wp2_with fail
 go_ret
 exact ⟨rfl, rfl⟩
theorem arity_26 (w : World) : Calls Tryz.prog 60 #[.int .i64 26] w fun ev w' => ev = .returned (.int .i64 2) ∧ w' = w := by
 go_enter Tryz.func60, Tryz.ntmps60
 go_wp2_with fail
 go_ret
 exact ⟨rfl, rfl⟩
theorem arity_27 (w : World) : Calls Tryz.prog 60 #[.int .i64 27] w fun ev w' => ev = .returned (.int .i64 2) ∧ w' = w := by
 go_enter Tryz.func60, Tryz.ntmps60
 go_wp2_with fail
 go_ret
 exact ⟨rfl, rfl⟩
theorem arity_28 (w : World) : Calls Tryz.prog 60 #[.int .i64 28] w fun ev w' => ev = .returned (.int .i64 2) ∧ w' = w := by
 go_enter Tryz.func60, Tryz.ntmps60
 go_wp2_with fail
 go_ret
 exact ⟨rfl, rfl⟩
theorem arity_29 (w : World) : Calls Tryz.prog 60 #[.int .i64 29] w fun ev w' => ev = .returned (.int .i64 2) ∧ w' = w := by
 go_enter Tryz.func60, Tryz.ntmps60
 go_wp2_with fail
 go_ret
 exact ⟨rfl, rfl⟩
theorem arity_30 (w : World) : Calls Tryz.prog 60 #[.int .i64 30] w fun ev w' => ev = .returned (.int .i64 2) ∧ w' = w := by
 go_enter Tryz.func60, Tryz.ntmps60
 go_wp2_with fail
 go_ret
 exact ⟨rfl, rfl⟩
theorem arity_31 (w : World) : Calls Tryz.prog 60 #[.int .i64 31] w fun ev w' => ev = .returned (.int .i64 2) ∧ w' = w := by
 go_enter Tryz.func60, Tryz.ntmps60
 go_wp2_with fail
 go_ret
 exact ⟨rfl, rfl⟩
theorem arity_32 (w : World) : Calls Tryz.prog 60 #[.int .i64 32] w fun ev w' => ev = .returned (.int .i64 2) ∧ w' = w := by
 go_enter Tryz.func60, Tryz.ntmps60
 go_wp2_with fail
 go_ret
 exact ⟨rfl, rfl⟩
theorem arity_33 (w : World) : Calls Tryz.prog 60 #[.int .i64 33] w fun ev w' => ev = .returned (.int .i64 2) ∧ w' = w := by
 go_enter Tryz.func60, Tryz.ntmps60
 go_wp2_with fail
 go_ret
 exact ⟨rfl, rfl⟩
theorem arity_34 (w : World) : Calls Tryz.prog 60 #[.int .i64 34] w fun ev w' => ev = .returned (.int .i64 2) ∧ w' = w := by
 go_enter Tryz.func60, Tryz.ntmps60
 go_wp2_with fail
 go_ret
 exact ⟨rfl, rfl⟩
theorem arity_35 (w : World) : Calls Tryz.prog 60 #[.int .i64 35] w fun ev w' => ev = .returned (.int .i64 2) ∧ w' = w := by
 go_enter Tryz.func60, Tryz.ntmps60
 go_wp2_with fail
 go_ret
 exact ⟨rfl, rfl⟩
theorem arity_36 (w : World) : Calls Tryz.prog 60 #[.int .i64 36] w fun ev w' => ev = .returned (.int .i64 2) ∧ w' = w := by
 go_enter Tryz.func60, Tryz.ntmps60
 go_wp2_with fail
 go_ret
 exact ⟨rfl, rfl⟩
theorem arity_37 (w : World) : Calls Tryz.prog 60 #[.int .i64 37] w fun ev w' => ev = .returned (.int .i64 2) ∧ w' = w := by
 go_enter Tryz.func60, Tryz.ntmps60
 go_wp2_with fail
 go_ret
 exact ⟨rfl, rfl⟩
theorem arity_38 (w : World) : Calls Tryz.prog 60 #[.int .i64 38] w fun ev w' => ev = .returned (.int .i64 2) ∧ w' = w := by
 go_enter Tryz.func60, Tryz.ntmps60
 go_wp2_with fail
 go_ret
 exact ⟨rfl, rfl⟩
theorem arity_39 (w : World) : Calls Tryz.prog 60 #[.int .i64 39] w fun ev w' => ev = .returned (.int .i64 1) ∧ w' = w := by
 go_enter Tryz.func60, Tryz.ntmps60
 go_wp2_with fail
 go_ret
 exact ⟨rfl, rfl⟩
theorem arity_40 (w : World) : Calls Tryz.prog 60 #[.int .i64 40] w fun ev w' => ev = .returned (.int .i64 1) ∧ w' = w := by
 go_enter Tryz.func60, Tryz.ntmps60
 go_wp2_with fail
 go_ret
 exact ⟨rfl, rfl⟩
theorem arity_41 (w : World) : Calls Tryz.prog 60 #[.int .i64 41] w fun ev w' => ev = .returned (.int .i64 1) ∧ w' = w := by
 go_enter Tryz.func60, Tryz.ntmps60
 go_wp2_with fail
 go_ret
 exact ⟨rfl, rfl⟩
theorem arity_42 (w : World) : Calls Tryz.prog 60 #[.int .i64 42] w fun ev w' => ev = .returned (.int .i64 1) ∧ w' = w := by
 go_enter Tryz.func60, Tryz.ntmps60
 go_wp2_with fail
 go_ret
 exact ⟨rfl, rfl⟩
theorem arity_43 (w : World) : Calls Tryz.prog 60 #[.int .i64 43] w fun ev w' => ev = .returned (.int .i64 1) ∧ w' = w := by
 go_enter Tryz.func60, Tryz.ntmps60
 go_wp2_with fail
 go_ret
 exact ⟨rfl, rfl⟩
theorem arity_44 (w : World) : Calls Tryz.prog 60 #[.int .i64 44] w fun ev w' => ev = .returned (.int .i64 1) ∧ w' = w := by
 go_enter Tryz.func60, Tryz.ntmps60
 go_wp2_with fail
 go_ret
 exact ⟨rfl, rfl⟩
end
end Go.Proofs.YtcahhahbcijkiaaGreat.Ag
