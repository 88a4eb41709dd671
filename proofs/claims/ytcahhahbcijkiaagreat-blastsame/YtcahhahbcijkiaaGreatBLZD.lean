import Derived.Test.YtcahhahbcijkiaaGreatBLZA
namespace Go.Proofs.YtcahhahbcijkiaaGreat.Ag
set_option maxHeartbeats 12800000
set_option maxRecDepth 100000
open Go.RowKit
set_option linter.unusedSimpArgs false
set_option linter.unusedVariables false
section
variable {w : World} {F : Nat → Prop} {gs g mo : Nat} {s : Gz} {ua ub uc : Value} {op so na nb nc p q W lo hi : Int} {nm : ByteArray} {R : List Int × Gz}
theorem circ_choice {A : List Int} (hA : Wd w (FG F gs) ua A) (hn : 0 < A.length) (har : ∀ wx, Calls Tryz.prog 60 #[.int .i64 op] wx fun ev w' => ev = .returned (.int .i64 3) ∧ w' = wx)
  (hc : ∀ wx, Below w.heap.size w wx → Calls Tryz.prog 63 #[.pointer (some ⟨gs, 0, none⟩), .int .i64 (A.getD 0 0), ub, uc] wx (WG wx F gs g mo R)) :
  Calls Tryz.prog 49 #[.pointer (some ⟨gs, 0, none⟩), .agg #[.int .i64 op, .int .i64 so, .int .i64 na, .int .i64 nb, .int .i64 nc, .int .i64 p, .int .i64 q, .int .i64 W, .int .u64 lo, .int .u64 hi, .string nm], ua, ub, uc] w (WG w F gs g mo R) := by
 have HAR : Hid _ := har
 have HC : Hid _ := hc
 obtain ⟨r, o, c, e, hr, hcell⟩ := hA.cell hn
 subst e
 obtain ⟨x, hx⟩ : ∃ x, x = A.getD 0 0 := ⟨_, rfl⟩
 rw [← hx] at hcell HC
 obtain ⟨n, hnn⟩ : ∃ n, n + 1 = A.length := ⟨A.length - 1, by omega⟩
 rw [← hnn]
 rw [Nat.add_zero] at hcell
 have hcell2 : (w.alloc (Obj.cells #[.int .i64 op, .int .i64 so, .int .i64 na, .int .i64 nb, .int .i64 nc, .int .i64 p, .int .i64 q, .int .i64 W, .int .u64 lo, .int .u64 hi, .string nm] 50)).cell? ⟨r, o, none⟩ = some (.int .i64 x) := keep_cell (by go_grown : Below w.heap.size w _) hcell
 clear har hc hA hn hx hnn
 go_enter Tryz.func49, Tryz.ntmps49
 go_wp2_with fail
 refine (HAR.out _).mono ?_
 rintro ev wz ⟨rfl, hz⟩
 rw [hz]
 clear hz wz
 go_wp2_with fail
 refine (HC.out _ (by go_grown)).mono ?_
 rintro ev w5 ⟨u5, rfl, F5, hW5, hG5, hC5⟩
 have HF : Hid (∃ F', Wd w5 (FG F' gs) u5 R.1 ∧ Gn w5 F' gs g mo R.2 ∧ Ch w w5 (FG F gs) (FG F' gs)) := ⟨F5, hW5, hG5, (Ch.of_below (FG F gs) (by go_grown)).trans hC5⟩
 clear hW5 hG5 hC5
 go_wp2_with fail
 go_ret
 exact ⟨_, rfl, HF.out⟩
theorem circ_constant {K : List Int} (h : Gn w F gs g mo s) (har : ∀ wx, Calls Tryz.prog 60 #[.int .i64 op] wx fun ev w' => ev = .returned (.int .i64 0) ∧ w' = wx)
  (hc : ∀ wx, Below w.heap.size w wx → Calls Tryz.prog 64 #[.agg #[.int .i64 W, .int .u64 lo, .int .u64 hi]] wx fun ev w' => ∃ u', ev = .returned u' ∧ Wd w' (FG F gs) u' K ∧ Below wx.heap.size wx w') :
  Calls Tryz.prog 49 #[.pointer (some ⟨gs, 0, none⟩), .agg #[.int .i64 op, .int .i64 so, .int .i64 na, .int .i64 nb, .int .i64 nc, .int .i64 p, .int .i64 q, .int .i64 W, .int .u64 lo, .int .u64 hi, .string nm], ua, ub, uc] w (WG w F gs g mo (K, s)) := by
 have HAR : Hid _ := har
 have HC : Hid _ := hc
 have H : Hid _ := h
 clear har hc h
 go_enter Tryz.func49, Tryz.ntmps49
 go_wp2_with fail
 refine (HAR.out _).mono ?_
 rintro ev wz ⟨rfl, hz⟩
 rw [hz]
 clear hz wz
 go_wp2_with fail
 refine (HC.out _ (by go_grown)).mono ?_
 rintro ev w5 ⟨u5, rfl, hW5, hb5⟩
 have hb : Below w.heap.size w w5 := Below.trans (by go_grown) (hb5.mono (by simp))
 have HF : Hid (∃ F', Wd w5 (FG F' gs) u5 K ∧ Gn w5 F' gs g mo s ∧ Ch w w5 (FG F gs) (FG F' gs)) := ⟨F, hW5, H.out.below hb, Ch.of_below _ hb⟩
 clear hW5 hb5 hb
 go_wp2_with fail
 go_ret
 exact ⟨_, rfl, HF.out⟩
end
end Go.Proofs.YtcahhahbcijkiaaGreat.Ag
