/- The chapter's examples hold (terms). -/
import Derived.Test.YtjmbicaacplolaaY13
import Derived.Test.YtjmbicaacplolaaY11
import Derived.Test.YtjmbicaacplolaaY12
import Derived.Test.YtjmbicaacplolaaY8
namespace Go.Proofs.Ytjmbicaacplolaa
open Go.RowKit
set_option linter.unusedSimpArgs false
set_option linter.unusedVariables false

theorem Chg.low {w w' : World} {B g mi mv mo : Nat} {v : Value} {ns : List Nd} (hG : Gr w B g mi mv v mo ns) (hB : B ≤ w.heap.size) (hC : Chg w w' g mi mv v) : Below B w w' :=
  ⟨hC.os, hC.tape, hC.output, hC.size, fun k hk => hC.block k (by omega) (by have := hG.bg; omega) (by have := hG.bi; omega) (by have := hG.bv; omega) (fun e => by have := (hG.row.lt k e.symm).1; omega)⟩
theorem n12 : N2 ∉ [N1] := by intro h; have := List.mem_singleton.1 h; simp [N1, N2] at this
theorem n123 : N3 ∉ [N1, N2] := by
  intro h
  rcases List.mem_cons.1 h with h | h
  · simp [N1, N3] at h
  · have := List.mem_singleton.1 h; simp [N2, N3] at this
theorem kN1 : ∃ kl, keyOf Try.prog 36 N1.val = some kl := by
  refine kn_of ?_ ?_ ?_ ?_ ?_ ?_ ?_ ?_ ?_ ?_ ?_ ?_ ?_ <;> first | decide | (unfold w64; decide)
theorem kN2 : ∃ kl, keyOf Try.prog 36 N2.val = some kl := by
  refine kn_of ?_ ?_ ?_ ?_ ?_ ?_ ?_ ?_ ?_ ?_ ?_ ?_ ?_ <;> first | decide | (unfold w64; decide)
theorem kN3 : ∃ kl, keyOf Try.prog 36 N3.val = some kl := by
  refine kn_of ?_ ?_ ?_ ?_ ?_ ?_ ?_ ?_ ?_ ?_ ?_ ?_ ?_ <;> first | decide | (unfold w64; decide)
theorem fiOf {n : Nd} (h1 : n.lo = 0) (h2 : n.hi = 0) (h3 : n.nm.size ≤ 1) : Fi n := ⟨by omega, by omega, by omega, by omega, by unfold maxLen; omega⟩
theorem so1 : srtOf [] (⟨2, 4, 0, 0, 0, 0, 0, 0, 0, 0, ⟨#[120]⟩⟩ : Nd) = (4, 0) := by decide
theorem so2 : srtOf [N1] (⟨18, 0, 1, 1, 0, 0, 0, 0, 0, 0, ⟨#[]⟩⟩ : Nd) = (4, 0) := by decide
theorem so3 : srtOf [N1, N2] (⟨38, 0, 2, 2, 0, 0, 0, 0, 0, 0, ⟨#[]⟩⟩ : Nd) = (8, 0) := by decide
theorem so4 : srtOf [N1, N2, N3] (⟨29, 0, 1, 3, 0, 0, 0, 0, 0, 0, ⟨#[]⟩⟩ : Nd) = (0, 30) := by decide
theorem so5 : srtOf [N1, N2, N3] (⟨44, 0, 1, 0, 0, 33, 0, 0, 0, 0, ⟨#[]⟩⟩ : Nd) = (0, 31) := by decide
theorem so2b : srtOf [N1, N2] (⟨18, 0, 1, 1, 0, 0, 0, 0, 0, 0, ⟨#[]⟩⟩ : Nd) = (4, 0) := by decide
theorem vx : varAt [N1, N2, N3] ⟨#[120]⟩ = 1 := by decide
theorem vsx : vsF [N1, N2, N3] = [1] := by decide
theorem sx : srtF 39 3 1 [4] = (3, 0) := by decide
theorem eqN3 (w : World) : (binOp .eql 36 (.agg #[.int .i64 38, .int .i64 8, .int .i64 2, .int .i64 2, .int .i64 0, .int .i64 0, .int .i64 0, .int .i64 0, .int .u64 0, .int .u64 0, .string ⟨#[]⟩]) (.agg #[.int .i64 38, .int .i64 8, .int .i64 2, .int .i64 2, .int .i64 0, .int .i64 0, .int .i64 0, .int .i64 0, .int .u64 0, .int .u64 0, .string ⟨#[]⟩])).run Try.prog w = .ok (.bool true) w := by simp [go_sem]
set_option maxRecDepth 20000 in
set_option maxHeartbeats 12800000 in
theorem known_any (w : World) :
    Calls Try.prog 8 #[] w fun e w' => e = .returned (.bool true) ∧ Below w.heap.size w w' := by
  go_enter Try.func8, Try.ntmps8
  go_wp2_with fail
  refine (new_any 9 _).mono ?_
  rintro e w1 ⟨rfl, hb1, hG1⟩
  have HG1 : Hid _ := hG1
  clear hG1
  go_wp2_with fail
  obtain ⟨k1, hk1⟩ := kN1
  refine (mk_new (n := (⟨2, 4, 0, 0, 0, 0, 0, 0, 0, 0, ⟨#[120]⟩⟩ : Nd)) (s := 4) HG1.out (fiOf rfl rfl (by decide)) so1 (by simp) hk1 (by decide) hb1.size).mono ?_
  rintro e w2 ⟨rfl, v2, hG2, hC2, -⟩
  have hb2 : Below w.heap.size w w2 := hb1.trans (hC2.low HG1.out hb1.size)
  have HG2 : Hid (Gr w2 w.heap.size (w.heap.size + 2) w.heap.size (w.heap.size + 1) v2 (roomOf 9) [N1]) := hG2
  clear hG2 hC2 hk1
  go_wp2_with fail
  obtain ⟨k2, hk2⟩ := kN2
  refine (mk_new (n := (⟨18, 0, 1, 1, 0, 0, 0, 0, 0, 0, ⟨#[]⟩⟩ : Nd)) (s := 4) HG2.out (fiOf rfl rfl (by decide)) so2 n12 hk2 (by decide) hb2.size).mono ?_
  rintro e w3 ⟨rfl, v3, hG3, hC3, -⟩
  have hb3 : Below w.heap.size w w3 := hb2.trans (hC3.low HG2.out hb2.size)
  have HG3 : Hid (Gr w3 w.heap.size (w.heap.size + 2) w.heap.size (w.heap.size + 1) v3 (roomOf 9) [N1, N2]) := hG3
  clear hG3 hC3 hk2
  go_wp2_with fail
  refine (mk_old (n := (⟨18, 0, 1, 1, 0, 0, 0, 0, 0, 0, ⟨#[]⟩⟩ : Nd)) (s := 4) HG3.out (fiOf rfl rfl (by decide)) so2b (i := 1) rfl).mono ?_
  rintro e w4 ⟨rfl, hb⟩
  have hb4 : Below w.heap.size w w4 := hb3.trans (hb.mono hb3.size)
  have HG4 : Hid _ := HG3.out.below hb
  clear hb
  go_wp2_with fail
  obtain ⟨k3, hk3⟩ := kN3
  refine (mk_new (n := (⟨38, 0, 2, 2, 0, 0, 0, 0, 0, 0, ⟨#[]⟩⟩ : Nd)) (s := 8) HG4.out (fiOf rfl rfl (by decide)) so3 n123 hk3 (by decide) hb4.size).mono ?_
  rintro e w5 ⟨rfl, v5, hG5, hC5, -⟩
  have hb5 : Below w.heap.size w w5 := hb4.trans (hC5.low HG4.out hb4.size)
  have HG5 : Hid (Gr w5 w.heap.size (w.heap.size + 2) w.heap.size (w.heap.size + 1) v5 (roomOf 9) [N1, N2, N3]) := hG5
  clear hG5 hC5 hk3
  go_wp2_with fail
  refine (mk_err (n := (⟨29, 0, 1, 3, 0, 0, 0, 0, 0, 0, ⟨#[]⟩⟩ : Nd)) HG5.out (fiOf rfl rfl (by decide)) so4 (by decide)).mono ?_
  rintro e w6 ⟨rfl, hb⟩
  have hb6 : Below w.heap.size w w6 := hb5.trans (hb.mono hb5.size)
  have HG6 : Hid _ := HG5.out.below hb
  clear hb
  go_wp2_with fail
  refine (mk_err (n := (⟨44, 0, 1, 0, 0, 33, 0, 0, 0, 0, ⟨#[]⟩⟩ : Nd)) HG6.out (fiOf rfl rfl (by decide)) so5 (by decide)).mono ?_
  rintro e w7 ⟨rfl, hb⟩
  have hb7 : Below w.heap.size w w7 := hb6.trans (hb.mono hb6.size)
  have HG7 : Hid _ := HG6.out.below hb
  clear hb
  go_wp2_with fail
  have HN : Hid (Calls Try.prog 15 #[.pointer (some ⟨w.heap.size + 2, 0, none⟩), .int .i64 3] w7 fun e w' => e = .returned (.tuple #[.agg #[.int .i64 38, .int .i64 8, .int .i64 2, .int .i64 2, .int .i64 0, .int .i64 0, .int .i64 0, .int .i64 0, .int .u64 0, .int .u64 0, .string ⟨#[]⟩], .bool true]) ∧ Below w7.heap.size w7 w') := node_yes (i := 2) (n := N3) HG7.out rfl
  refine Calls.mono HN.out ?_
  rintro e w8 ⟨rfl, hb⟩
  have hb8 : Below w.heap.size w w8 := hb7.trans (hb.mono hb7.size)
  have HG8 : Hid _ := HG7.out.below hb
  clear hb
  have HV : Hid (∀ wx, Gr wx w.heap.size (w.heap.size + 2) w.heap.size (w.heap.size + 1) v5 (roomOf 9) [N1, N2, N3] → Calls Try.prog 20 #[.pointer (some ⟨w.heap.size + 2, 0, none⟩), .string ⟨#[120]⟩] wx fun e w' => e = .returned (.tuple #[.int .i64 1, .bool true]) ∧ w' = wx) := fun wx hx => by
    have := var_any hx (s := ⟨#[120]⟩) (by decide)
    rw [vx] at this; exact this
  go_wp2_with fail
  refine (HV.out _ (HG8.out.alloc _)).mono ?_
  rintro e wq ⟨rfl, hq⟩
  rw [hq]
  clear hq wq
  have HSO : Hid (∀ wx (r cap : Nat), Li wx r 0 [4] → 1 ≤ cap → Calls Try.prog 24 #[.int .i64 39, .int .i64 3, .int .i64 1, .slice (some ⟨r, 0, none⟩) 1 cap] wx fun e w' => e = .returned (.tuple #[.int .i64 3, .int .i64 0]) ∧ Below wx.heap.size wx w') := fun wx r cap hl hc => by
    have := sort_any (op := 39) (p := 3) (q := 1) (l := [4]) hl (by decide) hc
    rw [sx] at this; exact this
  go_wp2_with fail
  refine (HSO.out _ _ _ (fun j hj => by
    obtain rfl : j = 0 := by simp at hj; omega
    simp) (by decide)).mono ?_
  rintro e w9 ⟨rfl, hb⟩
  have n0 : w9.cell? ⟨w8.heap.size, 0, none⟩ = some (.int .i64 38) := by rw [hb.cell (p := ⟨w8.heap.size, 0, none⟩) (by simp; omega)]; simp
  have n1 : w9.cell? ⟨w8.heap.size, 1, none⟩ = some (.int .i64 8) := by rw [hb.cell (p := ⟨w8.heap.size, 1, none⟩) (by simp; omega)]; simp
  have n2 : w9.cell? ⟨w8.heap.size, 2, none⟩ = some (.int .i64 2) := by rw [hb.cell (p := ⟨w8.heap.size, 2, none⟩) (by simp; omega)]; simp
  have n3 : w9.cell? ⟨w8.heap.size, 3, none⟩ = some (.int .i64 2) := by rw [hb.cell (p := ⟨w8.heap.size, 3, none⟩) (by simp; omega)]; simp
  have n4 : w9.cell? ⟨w8.heap.size, 4, none⟩ = some (.int .i64 0) := by rw [hb.cell (p := ⟨w8.heap.size, 4, none⟩) (by simp; omega)]; simp
  have n5 : w9.cell? ⟨w8.heap.size, 5, none⟩ = some (.int .i64 0) := by rw [hb.cell (p := ⟨w8.heap.size, 5, none⟩) (by simp; omega)]; simp
  have n6 : w9.cell? ⟨w8.heap.size, 6, none⟩ = some (.int .i64 0) := by rw [hb.cell (p := ⟨w8.heap.size, 6, none⟩) (by simp; omega)]; simp
  have n7 : w9.cell? ⟨w8.heap.size, 7, none⟩ = some (.int .i64 0) := by rw [hb.cell (p := ⟨w8.heap.size, 7, none⟩) (by simp; omega)]; simp
  have n8 : w9.cell? ⟨w8.heap.size, 8, none⟩ = some (.int .u64 0) := by rw [hb.cell (p := ⟨w8.heap.size, 8, none⟩) (by simp; omega)]; simp
  have n9 : w9.cell? ⟨w8.heap.size, 9, none⟩ = some (.int .u64 0) := by rw [hb.cell (p := ⟨w8.heap.size, 9, none⟩) (by simp; omega)]; simp
  have n10 : w9.cell? ⟨w8.heap.size, 10, none⟩ = some (.string ⟨#[]⟩) := by rw [hb.cell (p := ⟨w8.heap.size, 10, none⟩) (by simp; omega)]; simp
  have hb9 : Below w.heap.size w w9 := Below.trans ((hb8.alloc hb8.size _).alloc (by have := hb8.size; simp; omega) _) (hb.mono (by simp; have := hb8.size; omega))
  have HG9 : Hid _ := ((HG8.out.alloc (.cells #[.int .i64 38, .int .i64 8, .int .i64 2, .int .i64 2, .int .i64 0, .int .i64 0, .int .i64 0, .int .i64 0, .int .u64 0, .int .u64 0, .string ⟨#[]⟩] 36)).alloc (.cells #[.int .i64 4] 3)).below hb
  clear hb
  have heq := eqN3
  have HA : Hid (∀ wx, Calls Try.prog 26 #[.int .i64 9] wx fun e w' => e = .returned (.int .i64 3) ∧ w' = wx) := fun wx => arity_any 9 wx
  go_wp2_with fail
  refine (HA.out _).mono ?_
  rintro e wq ⟨rfl, hq⟩
  rw [hq]
  clear hq wq
  go_wp2_with fail
  refine (cone3 HG9.out).mono ?_
  rintro e w10 ⟨r, cap, rfl, hl, hb⟩
  have hb10 : Below w.heap.size w w10 := hb9.trans (hb.mono hb9.size)
  have HG10 : Hid _ := HG9.out.below hb
  have HL10 : Hid _ := hl
  clear hb hl
  go_wp2_with fail
  refine (ints_any (l := [1, 2, 3]) (m := [1, 2, 3]) (c' := 3) (fun j hj => ?_) (fun j hj => ?_) (by decide) (by decide)).mono ?_
  · have h := HL10.out j hj
    rw [World.cell?_of_block (heap_alloc_old _ _ (World.block_lt_of_cell? _ _ h))]; exact h
  · have : j = 0 ∨ j = 1 ∨ j = 2 := by simp at hj; omega
    rcases this with rfl | rfl | rfl <;> simp
  rintro e w11 ⟨rfl, hb⟩
  have hb11 : Below w.heap.size w w11 := Below.trans (hb10.alloc hb10.size _) (hb.mono (by simp; have := hb10.size; omega))
  have HG11 : Hid _ := (HG10.out.alloc (.cells #[.int .i64 1, .int .i64 2, .int .i64 3] 3)).below hb
  clear hb
  go_wp2_with fail
  refine (glen_any HG11.out).mono ?_
  rintro e wq ⟨rfl, hq⟩
  rw [hq]
  clear hq wq
  go_wp2_with fail
  refine (vars_any HG11.out (by decide)).mono ?_
  rintro e w12 ⟨u, rfl, hI, hb⟩
  have hb12 : Below w.heap.size w w12 := hb11.trans (hb.mono hb11.size)
  rw [vsx] at hI
  obtain ⟨r2, cap2, rfl, -, -, hl2⟩ := Is'.li hI (by decide)
  have HL12 : Hid _ := hl2
  clear hb hI hl2
  go_wp2_with fail
  refine (ints_any (l := [1]) (m := [1]) (c' := 1) (fun j hj => ?_) (fun j hj => ?_) (by decide) (by decide)).mono ?_
  · have h := HL12.out j hj
    rw [World.cell?_of_block (heap_alloc_old _ _ (World.block_lt_of_cell? _ _ h))]; exact h
  · obtain rfl : j = 0 := by simp at hj; omega
    simp
  rintro e w13 ⟨rfl, hb⟩
  have hb13 : Below w.heap.size w w13 := Below.trans (hb12.alloc hb12.size _) (hb.mono (by simp; have := hb12.size; omega))
  clear hb
  go_wp2_with fail
  go_ret
  exact ⟨rfl, hb13⟩
end Go.Proofs.Ytjmbicaacplolaa
